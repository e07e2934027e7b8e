import PyProof.Rows.All
import Wide.All
import OpenK.AllK
import Wide.FinOn
import HandS.ForMost
import HandS.ForExc
import HandS.OwnEq
import HandS.Wide
import HandS.SetFor
import HandS.Strs
import HandS.IsInst
import HandS.TupAny
import HandS.Style
import HandS.Codes
import HandS.Flow
import HandS.Evl
import HandS.Conv
import KE.KEqDeep
import HandS.Lambda
import HandS.Nested
import HandS.EndOwn
import HandS.Words
import HandS.ExcInit
import HandS.ExcField
import HandS.ExcIs
import HandS.FStr
import HandS.TryMany
import HandS.Defaults
import HandS.Iter
import HandS.Zip
import HandS.Text
import HandS.RevRange
import KE.KOpsOwn
import KE.KTupSum
import HandS.TupMul
import HandS.GenList
import HandS.Comp
import HandS.More
import HandS.Dict
import HandS.NoneIn
import HandS.StrMore
import HandS.Deep
import KE.IntTextText
import HandS.WordsList
import HandS.Sort
import PySem.Challenge.RW_steppedtests_k11_ladder_runs
set_option Elab.async false
set_option linter.all false
set_option maxRecDepth 100000
set_option exponentiation.threshold 1000
set_option maxHeartbeats 1000000
namespace L2
open PySem PySem.Spec PyProof.Rows
/-! ## own special methods of a class: | & - by __or__ .., <= == by __le__ .., in by __contains__, len by __len__ -/
section
variable {X : Cx} {n : Nat} {CX : CXT} {C f : Addr} {fd : FuncData} {ps : List Str} {sp : Sp} {E : XK} {pins : List (Addr × Obj)} {σ : St} {H : Hp} {s : Shared}
theorem run_own {A : Around} {vs : List V} {us : List Value} {Q : VK} (F : FnOk X.prog X.w X.K X.mg X.base CX n f fd ps sp) (sb : Sub X n A) (hb : Binds X.K fd ps []) (hx : Passes CX X E)
    (I : Inv X pins σ H s) (r : Vals vs us) (h : sp vs H Q E) : wpAny (model X.prog X.w) A (call (.ref f) us) (EP X pins σ Q) X.xe s := by
  have e0 : Env0 X.prog X.w X.K X.mg X.base A X.stack s H := by
    have e := I.env0
    exact ⟨by rw [sb.fr]; exact e.frames, e.mod, e.bs, e.bsz, e.funs, e.frf, e.hok, e.bare⟩
  have hl := F.len _ _ _ _ h
  have hl2 : us.length = ps.length := by rw [← hl, r.length]
  refine wpAny_call (codeAny_mono (F.run A X.stack s H ⟨us, []⟩ us vs Q E sb.room e0 (by
    have := hb s us I.kIn (by simpa using hl2)
    simpa using this) r h) fun r' s' hq => ?_)
  cases r' with
  | error e => exact hx pins σ H s e s' I hq
  | ok fl =>
    cases fl with
    | ret w => exact I.after hq
    | next => exact False.elim hq
    | brk => exact False.elim hq
    | cont => exact False.elim hq
/-- a value of the layer is never NotImplemented -/
theorem back_ep {u : Value} {s' : Shared} {Q : VK} (h : EP X pins σ Q u s') : PySem.W.CmpBack (EP X pins σ Q) u s' := by
  obtain ⟨v, H', I', r, q⟩ := id h
  cases v with
  | non => cases r; exact h
  | bl b => cases r; exact h
  | int i => obtain ⟨t, rfl⟩ := r; exact h
  | str x => obtain ⟨t, rfl⟩ := r; exact h
  | byt x => obtain ⟨t, rfl⟩ := r; exact h
  | flt x => obtain ⟨t, rfl⟩ := r; exact h
  | ref a => cases r; exact h
  | ty m => cases r; exact h
def rOwn (C : Addr) (sp : Sp) (E : XK) : R2 := fun x y H Q => ∃ a b dx dy fs gs, x = .ref a ∧ y = .ref b ∧ H a = some (.ins C dx fs) ∧ H b = some (.ins C dy gs) ∧ sp [.ref a, .ref b] H Q E
theorem op_own {op : Operator} (F : FnOk X.prog X.w X.K X.mg X.base CX n f fd ps sp) (hr : Room n X.A) (hs : PySem.W.findIn X.K (.ref C) (PySem.dunder op.info.2) = some (some (.ref f))) (hf : PySem.W.isFn X.K (.ref f) = true)
    (hc : PySem.W.selfFirst X.K C = true) (hb : Binds X.K fd ps []) (hx : Passes CX X E) : OpR X (binaryOp op) (rOwn C sp E) := by
  intro pins s σ H x y v u Q I rx ry h
  obtain ⟨a, b, dx, dy, fs, gs, rfl, rfl, ha, hb', h⟩ := h
  cases rx
  cases ry
  obtain ⟨mA, J, _⟩ := ins_get I.hok ha
  obtain ⟨mB, J', _⟩ := ins_get I.hok hb'
  obtain ⟨od, J, _⟩ := J.look
  obtain ⟨od', J', _⟩ := J'.look
  obtain ⟨m, hF⟩ := I.fr
  refine PySem.W.binop_K hF I.ok.mod.kin J J'.type hc hs hf ?_
  exact thn (run_own (vs := [.ref a, .ref b]) F ⟨hr, rfl⟩ hb hx I (.cons rfl (.cons rfl .nil)) h) fun u s' q => back_ep q
theorem cmp_own {op : CmpOp} (F : FnOk X.prog X.w X.K X.mg X.base CX n f fd ps sp) (hr : Room n X.A) (hs : PySem.W.findIn X.K (.ref C) (PySem.cmpInfo op).2.1 = some (some (.ref f))) (hf : PySem.W.isFn X.K (.ref f) = true)
    (hb : Binds X.K fd ps []) (hx : Passes CX X E) : OpR X (richCompare op) (rOwn C sp E) := by
  intro pins s σ H x y v u Q I rx ry h
  obtain ⟨a, b, dx, dy, fs, gs, rfl, rfl, ha, hb', h⟩ := h
  cases rx
  cases ry
  obtain ⟨mA, J, _⟩ := ins_get I.hok ha
  obtain ⟨mB, J', _⟩ := ins_get I.hok hb'
  obtain ⟨od, J, _⟩ := J.look
  obtain ⟨od', J', _⟩ := J'.look
  obtain ⟨m, hF⟩ := I.fr
  refine PySem.W.cmp_K hr.units0 hF I.ok.mod.kin J J'.type (by simp [PySem.W.notFirst]) hs hf ?_
  exact thn (run_own (vs := [.ref a, .ref b]) F ⟨hr, rfl⟩ hb hx I (.cons rfl (.cons rfl .nil)) h) fun u s' q => back_ep q
def rOwnIn (C : Addr) (sp : Sp) (E : XK) (neg : Bool) : R2 := fun x y H Q => ∃ b dy gs, y = .ref b ∧ H b = some (.ins C dy gs) ∧ sp [.ref b, x] H (fun v H' => ∃ k, v = .bl k ∧ Q (.bl (if neg then !k else k)) H') E
theorem in_own (F : FnOk X.prog X.w X.K X.mg X.base CX n f fd ps sp) (hr : Room n X.A) (hs : PySem.W.findIn X.K (.ref C) "__contains__" = some (some (.ref f))) (hf : PySem.W.isFn X.K (.ref f) = true)
    (hb : Binds X.K fd ps []) (hx : Passes CX X E) : OpR X (compareOp .In) (rOwnIn C sp E false) := by
  intro pins s σ H x y v u Q I rx ry h
  obtain ⟨b, dy, gs, rfl, hb', h⟩ := h
  cases ry
  obtain ⟨mB, J', _⟩ := ins_get I.hok hb'
  obtain ⟨od', J', _⟩ := J'.look
  obtain ⟨m, hF⟩ := I.fr
  refine PySem.W.in_K hF I.ok.mod.kin J' hs hf ?_
  refine thn (run_own (vs := [.ref b, x]) F ⟨hr, rfl⟩ hb hx I (.cons rfl (.cons rx .nil)) h) fun u s' q => ?_
  obtain ⟨z, H', I', rz, k, rfl, q⟩ := q
  cases rz
  exact wpAny_truthy_bool ⟨.bl k, H', I', rfl, q⟩
theorem notIn_own (F : FnOk X.prog X.w X.K X.mg X.base CX n f fd ps sp) (hr : Room n X.A) (hs : PySem.W.findIn X.K (.ref C) "__contains__" = some (some (.ref f))) (hf : PySem.W.isFn X.K (.ref f) = true)
    (hb : Binds X.K fd ps []) (hx : Passes CX X E) : OpR X (compareOp .NotIn) (rOwnIn C sp E true) := by
  intro pins s σ H x y v u Q I rx ry h
  obtain ⟨b, dy, gs, rfl, hb', h⟩ := h
  cases ry
  obtain ⟨mB, J', _⟩ := ins_get I.hok hb'
  obtain ⟨od', J', _⟩ := J'.look
  obtain ⟨m, hF⟩ := I.fr
  refine PySem.W.notIn_K hF I.ok.mod.kin J' hs hf ?_
  refine thn (run_own (vs := [.ref b, x]) F ⟨hr, rfl⟩ hb hx I (.cons rfl (.cons rx .nil)) h) fun u s' q => ?_
  obtain ⟨z, H', I', rz, k, rfl, q⟩ := q
  cases rz
  exact wpAny_truthy_bool ⟨.bl (!k), H', I', rfl, q⟩
def rOwnLen (C : Addr) (sp : Sp) (E : XK) : List V → Hp → VK → Prop := fun xs H Q => ∃ b dy gs, xs = [.ref b] ∧ H b = some (.ins C dy gs) ∧ sp [.ref b] H (fun v H' => ∃ k : Int, v = .int k ∧ 0 ≤ k ∧ k < 2 ^ 63 ∧ Q (.int k) H') E
theorem len_own (F : FnOk X.prog X.w X.K X.mg X.base CX n f fd ps sp) (hr : Room (n + 1) X.A) (hs : PySem.W.findIn X.K (.ref C) "__len__" = some (some (.ref f))) (hf : PySem.W.isFn X.K (.ref f) = true)
    (hb : Binds X.K fd ps []) (hx : Passes CX X E) : CallR X (.builtin "len") (rOwnLen C sp E) := by
  intro pins s σ H xs us Q I r h
  obtain ⟨b, dy, gs, rfl, hb', h⟩ := h
  rw [Vals.ref1 r]
  obtain ⟨mB, J', _⟩ := ins_get I.hok hb'
  obtain ⟨od', J', _⟩ := J'.look
  obtain ⟨m, hF⟩ := I.fr
  refine PySem.W.len_K hF I.ok.mod.kin J' hs hf ?_
  have sb : Sub X (n + 1) X.A := ⟨hr, rfl⟩
  refine thn (run_own (vs := [.ref b]) F sb.in1 hb hx I (.cons rfl .nil) h) fun u s' q => ?_
  obtain ⟨z, H', I', rz, k, rfl, h0, h1, q⟩ := q
  obtain ⟨t, rfl⟩ := rz
  exact ⟨⟨h0, h1⟩, .int k, H', I'.tok _, ⟨_, rfl⟩, q⟩
/-- web[i] by an own __getitem__ -/
def rOwnIx (C : Addr) (sp : Sp) (E : XK) : R2 := fun x y H Q => ∃ a dx fs, x = .ref a ∧ H a = some (.ins C dx fs) ∧ sp [.ref a, y] H Q E
theorem pe_ownIx {a b : Expr} {ta tb : TE} {pos : Pos} (F : FnOk X.prog X.w X.K X.mg X.base CX n f fd ps sp) (hr : Room (n + 1) X.A) (hs : PySem.W.findIn X.K (.ref C) "__getitem__" = some (some (.ref f))) (hfn : PySem.W.fnIn X.K f = true) (hf : PySem.W.isFn X.K (.ref f) = true)
    (hb : Binds X.K fd ps []) (hx : Passes CX X E) (ha : PE X a ta) (hb' : PE X b tb)
    (hsl : ∀ x i, subscripted b true (.ref x) i = runValue (.builtin "lifetime.subscript" ⟨[.ref x, i], []⟩) := by intro _ _; with_unfolding_all rfl) : PE X (.Subscript a b pos) (tOp (rOwnIx C sp E) ta tb) := by
  refine ⟨fun pins s σ H Q I h => ?_⟩
  refine Subscript_ (binT ha hb' I h fun v u s2 x y H2 I2 rx ry q => ?_)
  obtain ⟨c, dx, fs, rfl, hc, q⟩ := q
  cases rx
  obtain ⟨mB, J', _⟩ := ins_get I2.hok hc
  obtain ⟨od', J', _⟩ := J'.look
  obtain ⟨m, hF⟩ := I2.fr
  have sb : Sub X (n + 1) X.A := ⟨hr, rfl⟩
  exact PySem.W.sub_K hF I2.ok.mod.kin J' hs hfn hf (run_own (vs := [.ref c, y]) F sb.in1 hb hx I2 (.cons rfl (.cons ry .nil)) q) (hsl _ _)
/-- set(t), t a tuple of ints -/
def rSetOf (K : PySem.W.Frag) (w : World) : List V → Hp → VK → Prop := fun xs H Q => ∃ (l : Addr) (ns : List Int), xs = [V.ref l] ∧ SqT K H l (ns.map V.int) ∧ ns.length ≤ 1000 ∧
  ∀ p c, H p = none → c ≤ ns.length → (∀ L : List Int, (∀ k ∈ ns, k ∈ L) → c ≤ L.length) → Q (.ref p) (upd H p (SetO w p (fun j => decide (j ∈ ns)) c))
theorem nodup_le : ∀ (l D : List Int), l.Nodup → (∀ x ∈ l, x ∈ D) → l.length ≤ D.length
  | [], _, _, _ => Nat.zero_le _
  | x :: r, D, hn, h => by
    have hx : x ∈ D := h x List.mem_cons_self
    obtain ⟨h1, h2⟩ := List.nodup_cons.mp hn
    have ih := nodup_le r (D.erase x) h2 fun y hy => by
      have hne : y ≠ x := fun e => h1 (e ▸ hy)
      exact (List.mem_erase_of_ne hne).mpr (h y (List.mem_cons_of_mem _ hy))
    rw [List.length_erase_of_mem hx] at ih
    have : 0 < D.length := List.length_pos_of_mem hx
    rw [List.length_cons]
    omega
theorem cr_setOf (hc : X.calm = true) : CallR X (.type "set") (rSetOf X.K X.w) := by
  intro pins s σ H xs us Q I r h
  obtain ⟨l, ns, rfl, hq, hl, q⟩ := h
  rw [Vals.ref1 r]
  obtain ⟨its, rv, pt, hz⟩ := I.tuple hq
  have hi : IntsAre its.toArray.toList ns := by simpa using ints_of_vals rv
  refine call_set_tupI ns (I.ok.hd hc) (show s.heap.IsTuple l its.toArray from pt) hi (by unfold scanBound; omega) fun h' tk c R hcn k => ?_
  have hn : H s.heap.objs.size = none := I.hok.fresh (Nat.le_refl _)
  refine ⟨.ref s.heap.objs.size, upd H s.heap.objs.size (SetO X.w s.heap.objs.size (fun j => decide (j ∈ ns)) c), I.laid (t' := tk) k (Nat.le_refl _) (setO_new R), rfl, q _ c hn hcn fun L hL => ?_⟩
  obtain ⟨o, es, ep, t, ho, hex, hdt, g, nd, hm2, hb, hf, hn2, hr, hl2⟩ := R
  have z := nodup_le _ L nd fun x hx => hL x (of_decide_eq_true ((hm2 x).mpr hx))
  rw [List.length_map, Array.length_toList, hn2] at z
  exact z
end
end L2

namespace L2
open PySem PySem.Spec PyProof.Rows
/-! ## heaps that keep all but the pool -/
def isPool (o : HO) : Prop := ∃ (a : Addr) (c i b s : Int), o = .lst [.ref a, .int c, .int i, .int b, .int s]
def Gd (H H' : Hp) : Prop := (∀ b o, ¬ isPool o → H b = some o → H' b = some o) ∧ ∀ b o, isPool o → H b = some o → ∃ o', isPool o' ∧ H' b = some o'
theorem Gd.refl (H : Hp) : Gd H H := ⟨fun _ _ _ h => h, fun _ o n h => ⟨o, n, h⟩⟩
theorem Gd.trans {H H1 H2 : Hp} (a : Gd H H1) (b : Gd H1 H2) : Gd H H2 := ⟨fun x o n h => b.1 x o n (a.1 x o n h), fun x o n h => let ⟨o', n', h'⟩ := a.2 x o n h; b.2 x o' n' h'⟩
theorem Same.gd {H H' : Hp} (h : Same H H') : Gd H H' := ⟨fun b o _ e => h b o e, fun b o n e => ⟨o, n, h b o e⟩⟩
theorem fresh_gd {H H' : Hp} {p : Addr} (e : Gd H H') (h : H' p = none) : H p = none := by
  cases q : H p with
  | none => rfl
  | some o =>
    exfalso
    by_cases n : isPool o
    · obtain ⟨o', _, h'⟩ := e.2 p o n q
      rw [h] at h'
      cases h'
    · have := e.1 p o n q
      rw [h] at this
      cases this
theorem np_ints (ns : List Int) : ¬ isPool (.lst (ns.map V.int)) := by
  rintro ⟨a, c, i, b, s, h⟩
  cases ns with
  | nil => cases h
  | cons x r => injection h with h; injection h with h _; cases h
theorem np_frz (o : Obj) (u : HO) : ¬ isPool (.frz o u) := by rintro ⟨a, c, i, b, s, h⟩; cases h
theorem np_tup (xs : List V) : ¬ isPool (.tup xs) := by rintro ⟨a, c, i, b, s, h⟩; cases h
theorem np_ins (C dx : Addr) (fs : List (Str × V)) : ¬ isPool (.ins C dx fs) := by rintro ⟨a, c, i, b, s, h⟩; cases h
theorem Gd.seq {K : PySem.W.Frag} {H H' : Hp} {a : Addr} {ns : List Int} (e : Gd H H') (h : SqL K H a (ns.map V.int)) : SqL K H' a (ns.map V.int) := by
  rcases h with (h | ⟨o, h⟩) | h
  · exact .inl (.inl (e.1 _ _ (np_ints ns) h))
  · exact .inl (.inr ⟨o, e.1 _ _ (np_frz _ _) h⟩)
  · exact .inr h
theorem Same.seqT {K : PySem.W.Frag} {H H' : Hp} {a : Addr} {xs : List V} (e : Same H H') (h : SqT K H a xs) : SqT K H' a xs := by
  rcases h with (h | ⟨o, h⟩) | h
  · exact .inl (.inl (e _ _ h))
  · exact .inl (.inr ⟨o, e _ _ h⟩)
  · exact .inr h
theorem same_upd {H : Hp} {p : Addr} {o : HO} (h : H p = none) : Same H (upd H p o) := fun b x e => by
  rw [upd_ne (ne_of_none e h)]
  exact e
/-- a heap made from H' by changing p, which H did not know -/
theorem Same.mut {H H' : Hp} {p : Addr} {o : HO} (e : Same H H') (h : H p = none) : Same H (upd H' p o) := fun a u ha => by
  rw [upd_ne (ne_of_none ha h)]
  exact e a u ha
theorem Gd.mut {H H' : Hp} {p : Addr} {o : HO} (e : Gd H H') (h : H p = none) : Gd H (upd H' p o) := ⟨fun a u n ha => by
  rw [upd_ne (ne_of_none ha h)]
  exact e.1 a u n ha, fun a u n ha => by
  rw [upd_ne (ne_of_none ha h)]
  exact e.2 a u n ha⟩
theorem Gd.upd {H H' : Hp} {p : Addr} {o : HO} (e : Gd H H') (h : H' p = none) : Gd H (upd H' p o) := e.mut (fresh_gd e h)
/-- the script: known to the object, or of the written part -/
def ScrAt (K : PySem.W.Frag) (H : Hp) (a : Addr) (xs : List V) : Prop :=
  (∃ o, H a = some (.frz o (.lst xs))) ∨ ∃ (o : Obj) (its : Array Value) (n : Nat), K.lookup a = some o ∧ o.cls = .type "list" ∧ o.dict = none ∧ o.data = .seq its n ∧ its.size ≤ sizeLine ∧ Vals xs its.toList
theorem ScrAt.seq {K : PySem.W.Frag} {H : Hp} {a : Addr} {xs : List V} (h : ScrAt K H a xs) : SqL K H a xs := h.elim (fun ⟨o, h⟩ => .inl (.inr ⟨o, h⟩)) fun h => .inr h
theorem ScrAt.gd {K : PySem.W.Frag} {H H' : Hp} {a : Addr} {xs : List V} (e : Gd H H') (h : ScrAt K H a xs) : ScrAt K H' a xs := h.elim (fun ⟨o, h⟩ => .inl ⟨o, e.1 _ _ (np_frz _ _) h⟩) fun h => .inr h
theorem ScrAt.mut {K : PySem.W.Frag} {H : Hp} {a D : Addr} {xs ys : List V} {o : HO} (hD : H D = some (.lst ys)) (h : ScrAt K H a xs) : ScrAt K (upd H D o) a xs :=
  h.elim (fun ⟨u, h⟩ => .inl ⟨u, by rw [upd_ne (ne_of h hD (by intro z; cases z))]; exact h⟩) fun h => .inr h
theorem scr_of {K : PySem.W.Frag} {H : Hp} {a : Addr} {xs : List V} (hO : Only H) (h : SqL K H a xs) : ScrAt K H a xs := by
  rcases h with (h | ⟨o, h⟩) | h
  · rcases hO a with z | ⟨o, ys, z⟩
    · rw [h] at z; cases z
    · rw [h] at z; cases z
  · exact .inl ⟨o, h⟩
  · exact .inr h
/-- the pool at p has drawn at most c times -/
def PoolOk (K : PySem.W.Frag) (p : Addr) (c : Nat) (H : Hp) : Prop := ∃ (sa : Addr) (ns : List Int) (c' i b s : Int), ScrAt K H sa (ns.map V.int) ∧ H p = some (.lst [.ref sa, .int c', .int i, .int b, .int s]) ∧ 0 ≤ c' ∧ c' ≤ (c : Int) ∧ 0 ≤ i ∧ i ≤ (ns.length : Int) ∧ 0 ≤ b ∧ 0 ≤ s ∧ s < 2147483629
theorem PoolOk.same {K : PySem.W.Frag} {p : Addr} {c : Nat} {H H' : Hp} (h : PoolOk K p c H) (e : Same H H') : PoolOk K p c H' := by
  obtain ⟨sa, ns, c', i, b, s, h1, h2, h3⟩ := h
  exact ⟨sa, ns, c', i, b, s, h1.gd e.gd, e _ _ h2, h3⟩
theorem PoolOk.mono {K : PySem.W.Frag} {p : Addr} {c d : Nat} {H : Hp} (h : PoolOk K p c H) (e : c ≤ d) : PoolOk K p d H := by
  obtain ⟨sa, ns, c', i, b, s, h1, h2, h3, h4, h5⟩ := h
  exact ⟨sa, ns, c', i, b, s, h1, h2, h3, by omega, h5⟩
/-- the pool is known, so a new address is another one -/
theorem PoolOk.ne {K : PySem.W.Frag} {p q : Addr} {c : Nat} {H : Hp} (h : PoolOk K p c H) (e : H q = none) : p ≠ q := by
  obtain ⟨sa, ns, c', i, b, s, h1, h2, h3⟩ := h
  exact ne_of_none h2 e
theorem PoolOk.upd {K : PySem.W.Frag} {p q : Addr} {c : Nat} {H : Hp} {o : HO} (h : PoolOk K p c H) (e : H q = none) : PoolOk K p c (upd H q o) := h.same (same_upd e)
/-- a list that stands (not the pool's) is changed: the pool stays -/
theorem PoolOk.mut {K : PySem.W.Frag} {p D : Addr} {c : Nat} {H : Hp} {ys : List V} {o : HO} (h : PoolOk K p c H) (hD : H D = some (.lst ys)) (n : ¬ isPool (.lst ys)) : PoolOk K p c (L2.upd H D o) := by
  obtain ⟨sa, ns, c', i, b, s, h1, h2, h3⟩ := h
  refine ⟨sa, ns, c', i, b, s, h1.mut hD, ?_, h3⟩
  rw [upd_ne (fun e => by
    subst e
    rw [h2] at hD
    injection hD with hD
    exact n ⟨sa, c', i, b, s, hD.symm⟩)]
  exact h2
theorem tyes {σ : St} {H : Hp} {A B : Hp → Prop} (h : A H) : tYes σ H fun b H3 => if b = true then A H3 else B H3 := by
  unfold tYes
  dsimp only
  rw [if_pos rfl]
  exact h
def pl (sa : Addr) (c i b s : Int) : HO := .lst [.ref sa, .int c, .int i, .int b, .int s]
theorem pl_pool (sa : Addr) (c i b s : Int) : isPool (pl sa c i b s) := ⟨sa, c, i, b, s, rfl⟩
theorem gd_pool {H : Hp} {p sa sa' : Addr} {c i b s c' i' b' s' : Int} (h : H p = some (pl sa c i b s)) : Gd H (upd H p (pl sa' c' i' b' s')) := ⟨fun x u n e => by
  have hx : x ≠ p := fun z => by
    subst z
    rw [h] at e
    injection e with e
    exact n ⟨sa, c, i, b, s, e.symm⟩
  rw [upd_ne hx]
  exact e, fun x u n e => by
  by_cases hx : x = p
  · subst hx
    exact ⟨_, pl_pool _ _ _ _ _, upd_same⟩
  · exact ⟨u, n, by rw [upd_ne hx]; exact e⟩⟩
def LIM : Nat := 1099511627776
def spDraw (K : PySem.W.Frag) : Sp := fun vs H Q _ => ∃ (p : Addr) (c : Nat) (lim : Int), vs = [.ref p, .int lim] ∧ PoolOk K p c H ∧ c < LIM ∧ 0 < lim ∧ lim < 2 ^ 200 ∧
  ∀ H' r, Gd H H' → PoolOk K p (c + 1) H' → 0 ≤ r → r < lim → Q (.int r) H'
def spPool (K : PySem.W.Frag) : Sp := fun vs H Q _ => ∃ (x : Addr) (ns : List Int), vs = [.ref x] ∧ ScrAt K H x (ns.map V.int) ∧ ∀ p H', H p = none → Same H H' → PoolOk K p 0 H' → Q (.ref p) H'
theorem atI0 {α : Type} {x : α} {r : List α} : atI (x :: r) 0 = some x := atI_nat (j := 0) rfl
theorem atI1 {α : Type} {x y : α} {r : List α} : atI (x :: y :: r) 1 = some y := atI_nat (j := 1) rfl
theorem atI2 {α : Type} {x y z : α} {r : List α} : atI (x :: y :: z :: r) 2 = some z := atI_nat (j := 2) rfl
theorem atI3 {α : Type} {x y z u : α} {r : List α} : atI (x :: y :: z :: u :: r) 3 = some u := atI_nat (j := 3) rfl
theorem atI4 {α : Type} {x y z u v : α} {r : List α} : atI (x :: y :: z :: u :: v :: r) 4 = some v := atI_nat (j := 4) rfl
/-! ## sets of questions by their ascending lists -/
def ask48 : List Int := (List.range 48).map fun i => ((i : Nat) : Int)
def norm (l : List Int) : List Int := ask48.filter fun x => decide (x ∈ l)
theorem mem_ask {x : Int} : x ∈ ask48 ↔ 0 ≤ x ∧ x < 48 := by
  unfold ask48
  rw [List.mem_map]
  constructor
  · rintro ⟨i, h, rfl⟩
    have := List.mem_range.mp h
    omega
  · rintro ⟨h0, h1⟩
    exact ⟨x.toNat, List.mem_range.mpr (by omega), by omega⟩
theorem mem_norm {l : List Int} {x : Int} : x ∈ norm l ↔ (0 ≤ x ∧ x < 48) ∧ x ∈ l := by
  unfold norm
  rw [List.mem_filter, mem_ask, decide_eq_true_eq]
theorem ask_sorted : ask48.Pairwise (· < ·) := by
  unfold ask48
  rw [List.pairwise_map]
  exact List.Pairwise.imp (fun h => by omega) List.pairwise_lt_range
theorem norm_sorted (l : List Int) : (norm l).Pairwise (· < ·) := ask_sorted.sublist List.filter_sublist
theorem norm_len (l : List Int) : (norm l).length ≤ 48 := by
  refine Nat.le_trans (List.length_filter_le _ _) ?_
  unfold ask48
  rw [List.length_map, List.length_range]
  exact Nat.le_refl _
theorem sorted_ext : ∀ {l l' : List Int}, l.Pairwise (· < ·) → l'.Pairwise (· < ·) → (∀ x, x ∈ l ↔ x ∈ l') → l = l'
  | [], [], _, _, _ => rfl
  | [], b :: r, _, _, h => absurd ((h b).mpr List.mem_cons_self) (by simp)
  | a :: r, [], _, _, h => absurd ((h a).mp List.mem_cons_self) (by simp)
  | a :: r, b :: s, h1, h2, h => by
    obtain ⟨ha, hr⟩ := List.pairwise_cons.mp h1
    obtain ⟨hb, hs⟩ := List.pairwise_cons.mp h2
    have e : a = b := by
      rcases List.mem_cons.mp ((h a).mp List.mem_cons_self) with e | e
      · exact e
      · rcases List.mem_cons.mp ((h b).mpr List.mem_cons_self) with e2 | e2
        · exact e2.symm
        · have := hb a e
          have := ha b e2
          omega
    subst e
    have : r = s := sorted_ext hr hs fun x => by
      constructor
      · intro hx
        rcases List.mem_cons.mp ((h x).mp (List.mem_cons_of_mem _ hx)) with e | e
        · have := ha x hx
          omega
        · exact e
      · intro hx
        rcases List.mem_cons.mp ((h x).mpr (List.mem_cons_of_mem _ hx)) with e | e
        · have := hb x hx
          omega
        · exact e
    rw [this]
theorem norm_ext {l l' : List Int} (h : ∀ x, 0 ≤ x → x < 48 → (x ∈ l ↔ x ∈ l')) : norm l = norm l' :=
  sorted_ext (norm_sorted l) (norm_sorted l') fun x => by
    rw [mem_norm, mem_norm]
    constructor
    · rintro ⟨a, b⟩; exact ⟨a, (h x a.1 a.2).mp b⟩
    · rintro ⟨a, b⟩; exact ⟨a, (h x a.1 a.2).mpr b⟩
theorem norm_of_sorted {l l' : List Int} (h : l.Pairwise (· < ·)) (hm : ∀ x, x ∈ l ↔ x ∈ l') (hr : ∀ x ∈ l', 0 ≤ x ∧ x < 48) : l = norm l' :=
  sorted_ext h (norm_sorted l') fun x => by
    rw [hm, mem_norm]
    exact ⟨fun a => ⟨hr x a, a⟩, fun a => a.2⟩
theorem norm_eq_iff {l l' : List Int} : norm l = norm l' ↔ ∀ x, 0 ≤ x → x < 48 → (x ∈ l ↔ x ∈ l') := by
  constructor
  · intro e x h0 h1
    have : x ∈ norm l ↔ x ∈ norm l' := by rw [e]
    rw [mem_norm, mem_norm] at this
    exact ⟨fun a => (this.mp ⟨⟨h0, h1⟩, a⟩).2, fun a => (this.mpr ⟨⟨h0, h1⟩, a⟩).2⟩
  · exact norm_ext
theorem norm_filter (l : List Int) (p : Int → Bool) : (norm l).filter p = norm (l.filter p) := by
  refine sorted_ext ((norm_sorted l).sublist List.filter_sublist) (norm_sorted _) fun x => ?_
  rw [List.mem_filter, mem_norm, mem_norm, List.mem_filter]
  constructor
  · rintro ⟨⟨a, b⟩, c⟩; exact ⟨a, b, c⟩
  · rintro ⟨a, b, c⟩; exact ⟨⟨a, b⟩, c⟩
theorem norm_norm (l : List Int) : norm (norm l) = norm l := norm_ext fun x h0 h1 => by
  rw [mem_norm]
  exact ⟨fun a => a.2, fun a => ⟨⟨h0, h1⟩, a⟩⟩
/-! ## values -/
theorem flat_ints (ns : List Int) : (ns.map V.int).all flatV = true := by
  rw [List.all_eq_true]
  intro x hx
  obtain ⟨i, _, rfl⟩ := List.mem_map.mp hx
  rfl
theorem eqV_int (i j : Int) : eqV (.int i) (.int j) = decide (i = j) := by
  show (i == j) = _
  rw [Bool.eq_iff_iff]
  simp
theorem in_ints (x : Int) (ns : List Int) : inV (.int x) (ns.map V.int) = decide (x ∈ ns) := by
  unfold inV
  rw [Bool.eq_iff_iff, List.any_eq_true, decide_eq_true_eq]
  constructor
  · rintro ⟨y, hy, e⟩
    obtain ⟨i, hi, rfl⟩ := List.mem_map.mp hy
    rw [eqV_int, decide_eq_true_eq] at e
    exact e ▸ hi
  · intro h
    exact ⟨.int x, List.mem_map.mpr ⟨x, h, rfl⟩, by rw [eqV_int, decide_eq_true_eq]⟩
theorem dpAll_ints {K : PySem.W.Frag} {H : Hp} : ∀ ns : List Int, DpAll K H (ns.map V.int) (ns.map PyData.int)
  | [] => .nil
  | n :: r => .cons (.int n) (dpAll_ints r)
theorem canLay_ints : ∀ ns : List Int, PyData.canLayAll0 (ns.map PyData.int) = true
  | [] => by rw [List.map_nil, PyData.canLayAll0]
  | n :: r => by
    rw [List.map_cons, PyData.canLayAll0, canLay_ints r]
    rfl
theorem depth_ints : ∀ ns : List Int, PyData.depthAll (ns.map PyData.int) = 0
  | [] => by rw [List.map_nil, PyData.depthAll]
  | n :: r => by
    rw [List.map_cons, PyData.depthAll, depth_ints r]
    rfl
theorem shT (ns : List Int) : SeqAt.shaped (.tuple (ns.map PyData.int)) = true := by
  simp [SeqAt.shaped, PyData.canLay0, canLay_ints, PyData.depth, depth_ints]
theorem shL (ns : List Int) : SeqAt.shaped (.list (ns.map PyData.int)) = true := by
  simp [SeqAt.shaped, PyData.canLay0, canLay_ints, PyData.depth, depth_ints]
theorem evT (ns ms : List Int) : PyData.eqv (.tuple (ns.map PyData.int)) (.tuple (ms.map PyData.int)) = decide (ns = ms) := by
  rw [PyData.eqv, PySem.W.ked_eqvAll]
theorem evL (ns ms : List Int) : PyData.eqv (.list (ns.map PyData.int)) (.list (ms.map PyData.int)) = decide (ns = ms) := by
  rw [PyData.eqv, PySem.W.ked_eqvAll]
theorem eqD_tup {K : PySem.W.Frag} {H : Hp} {a b : Addr} {ns ms : List Int} {Q : VK} (h1 : SqT K H a (ns.map V.int)) (h2 : SqT K H b (ms.map V.int)) (q : Q (.bl (decide (ns = ms))) H) : rEqD K (.ref a) (.ref b) H Q :=
  ⟨_, _, .tup h1 (dpAll_ints ns), .tup h2 (dpAll_ints ms), shT ns, shT ms, by rw [evT]; exact q⟩
theorem neD_tup {K : PySem.W.Frag} {H : Hp} {a b : Addr} {ns ms : List Int} {Q : VK} (h1 : SqT K H a (ns.map V.int)) (h2 : SqT K H b (ms.map V.int)) (q : Q (.bl (!decide (ns = ms))) H) : rNeD K (.ref a) (.ref b) H Q :=
  ⟨_, _, .tup h1 (dpAll_ints ns), .tup h2 (dpAll_ints ms), shT ns, shT ms, by rw [evT]; exact q⟩
theorem eqD_lst {K : PySem.W.Frag} {H : Hp} {a b : Addr} {ns ms : List Int} {Q : VK} (h1 : SqL K H a (ns.map V.int)) (h2 : SqL K H b (ms.map V.int)) (q : Q (.bl (decide (ns = ms))) H) : rEqD K (.ref a) (.ref b) H Q :=
  ⟨_, _, .lst h1 (dpAll_ints ns), .lst h2 (dpAll_ints ms), shL ns, shL ms, by rw [evL]; exact q⟩
theorem neD_lst {K : PySem.W.Frag} {H : Hp} {a b : Addr} {ns ms : List Int} {Q : VK} (h1 : SqL K H a (ns.map V.int)) (h2 : SqL K H b (ms.map V.int)) (q : Q (.bl (!decide (ns = ms))) H) : rNeD K (.ref a) (.ref b) H Q :=
  ⟨_, _, .lst h1 (dpAll_ints ns), .lst h2 (dpAll_ints ms), shL ns, shL ms, by rw [evL]; exact q⟩
/-! ## pupils -/
/-- at a a pupil whose rights are the ascending list of l -/
def PupAt (C : Addr) (H : Hp) (a : Addr) (l : List Int) : Prop := ∃ dx t, H a = some (.ins C dx [("rights", .ref t)]) ∧ H t = some (.tup ((norm l).map V.int))
theorem PupAt.same {C a : Addr} {H H' : Hp} {l : List Int} (e : Same H H') (h : PupAt C H a l) : PupAt C H' a l := by
  obtain ⟨dx, t, h1, h2⟩ := h
  exact ⟨dx, t, e _ _ h1, e _ _ h2⟩
theorem PupAt.gd {C a : Addr} {H H' : Hp} {l : List Int} (e : Gd H H') (h : PupAt C H a l) : PupAt C H' a l := by
  obtain ⟨dx, t, h1, h2⟩ := h
  exact ⟨dx, t, e.1 _ _ (np_ins _ _ _) h1, e.1 _ _ (np_tup _) h2⟩
theorem PupAt.eq {C a : Addr} {H : Hp} {l l' : List Int} (h : PupAt C H a l) (e : norm l = norm l') : PupAt C H a l' := by
  obtain ⟨dx, t, h1, h2⟩ := h
  exact ⟨dx, t, h1, by rw [← e]; exact h2⟩
/-- questions: each from 0 to 47 -/
def Qn (l : List Int) : Prop := ∀ k ∈ l, 0 ≤ k ∧ k < 48
def SqA (K : PySem.W.Frag) (H : Hp) (q : Addr) (xs : List V) : Prop := SqL K H q xs ∨ SqT K H q xs
def spInit (K : PySem.W.Frag) (C : Addr) : Sp := fun vs H Q _ => ∃ (x dx q : Addr) (l : List Int), vs = [.ref x, .ref q] ∧ H x = some (.ins C dx []) ∧ SqA K H q (l.map V.int) ∧ l.length ≤ 500 ∧ Qn l ∧
  ∀ H' t, H' x = some (.ins C dx [("rights", .ref t)]) → H' t = some (.tup ((norm l).map V.int)) → (∀ b o, b ≠ x → H b = some o → H' b = some o) → Q .non H'
theorem SqA.same {K : PySem.W.Frag} {H H' : Hp} {q : Addr} {xs : List V} (e : Same H H') (h : SqA K H q xs) : SqA K H' q xs := h.elim (fun h => .inl (e.seq h)) fun h => .inr (e.seqT h)
theorem pup_make {K : PySem.W.Frag} {C q : Addr} {H : Hp} {l : List Int} {R : Addr → Hp → Prop} {E : XK} (hq : SqA K H q (l.map V.int)) (hl : l.length ≤ 500) (hn : Qn l) (k : ∀ x H', H x = none → Same H H' → PupAt C H' x l → R x H') :
    ∀ x dx, H x = none → H dx = none → dx ≠ x → spInit K C (.ref x :: ([.ref q] ++ [])) (upd (upd H dx (.own x)) x (.ins C dx [])) (fun v H2 => v = .non ∧ R x H2) E := by
  intro x dx nx ndx ne
  have s0 : Same H (upd (upd H dx (.own x)) x (.ins C dx [])) := (same_upd ndx).mut nx
  refine ⟨x, dx, q, l, rfl, upd_same, hq.same s0, hl, hn, fun H' t h1 h2 h3 => ⟨rfl, k x H' nx (fun b o e => ?_) ⟨dx, t, h1, h2⟩⟩⟩
  exact h3 b o (ne_of_none e nx) (s0 b o e)
def spBin (C : Addr) (f : List Int → List Int → List Int) : Sp := fun vs H Q _ => ∃ (a b : Addr) (p q : List Int), vs = [.ref a, .ref b] ∧ PupAt C H a p ∧ PupAt C H b q ∧ ∀ x H', H x = none → Same H H' → PupAt C H' x (f p q) → Q (.ref x) H'
def spRel (C : Addr) (f : List Int → List Int → Bool) : Sp := fun vs H Q _ => ∃ (a b : Addr) (p q : List Int), vs = [.ref a, .ref b] ∧ PupAt C H a p ∧ PupAt C H b q ∧ ∀ H', Same H H' → Q (.bl (f (norm p) (norm q))) H'
def fOr (p q : List Int) : List Int := p ++ q
def fAnd (p q : List Int) : List Int := p.filter fun x => decide (x ∈ q)
def fSub (p q : List Int) : List Int := p.filter fun x => !decide (x ∈ q)
def fLe (p q : List Int) : Bool := p.all fun x => decide (x ∈ q)
def fEq (p q : List Int) : Bool := decide (p = q)
theorem norm_or (p q : List Int) : norm (norm p ++ norm q) = norm (p ++ q) := norm_ext fun x h0 h1 => by
  simp only [List.mem_append, mem_norm]
  exact ⟨fun h => h.elim (fun a => .inl a.2) fun a => .inr a.2, fun h => h.elim (fun a => .inl ⟨⟨h0, h1⟩, a⟩) fun a => .inr ⟨⟨h0, h1⟩, a⟩⟩
theorem qn_norm (l : List Int) : Qn (norm l) := fun k hk => (mem_norm.mp hk).1
theorem qn_append {l m : List Int} (h1 : Qn l) (h2 : Qn m) : Qn (l ++ m) := fun k hk => (List.mem_append.mp hk).elim (h1 k) (h2 k)
theorem qn_filter {l : List Int} {p : Int → Bool} (h1 : Qn l) : Qn (l.filter p) := fun k hk => h1 k (List.mem_filter.mp hk).1
/-- a comprehension over a list that keeps some of its ints as they are -/
theorem filter_take_succ {l : List Int} {p : Int → Bool} {i : Nat} {x : Int} (h : l[i]? = some x) : (l.take (i + 1)).filter p = (l.take i).filter p ++ (if p x = true then [x] else []) := by
  rw [List.take_add_one, h, List.filter_append]
  show _ ++ List.filter p [x] = _
  rw [List.filter_cons]
  rfl
theorem get_map_int {l : List Int} {i : Nat} {v : V} (h : (l.map V.int)[i]? = some v) : ∃ x, l[i]? = some x ∧ v = .int x := by
  rw [List.getElem?_map] at h
  cases e : l[i]? with
  | none => rw [e] at h; cases h
  | some x => rw [e] at h; exact ⟨x, rfl, (Option.some.inj h).symm⟩
theorem catA_k {K : PySem.W.Frag} {H : Hp} {a b : Addr} {xs ys : List V} {Q : VK} (h1 : SqT K H a xs) (h2 : SqT K H b ys) (hl : xs.length + ys.length ≤ sizeLine) (k : ∀ p H', Same H H' → SqT K H' p (xs ++ ys) → Q (.ref p) H') : rCatA K (.ref a) (.ref b) H Q := by
  refine ⟨a, b, xs, ys, rfl, rfl, h1, h2, hl, fun e => ?_, fun _ e => ?_, fun _ _ p hp => k p _ (same_upd hp) (.inl (.inl upd_same))⟩
  · subst e
    exact k b H (Same.refl H) h2
  · subst e
    exact k a H (Same.refl H) (by rw [List.append_nil]; exact h1)
section
variable {K : PySem.W.Frag} {a : Addr} {tt : TT} {te : TE} {vs : List Nat} {σ : St} {H1 : Hp} {D : Addr} {Qd : Hp → Prop} {j : Nat}
/-- one turn of a comprehension that keeps some ints as they are -/
theorem filt_turn {ns : List Int} {p : Int → Bool} {i : Nat} {x : Int} {H : Hp} (nD : H1 D = none) (hlen : ns.length < 100000) (hx : ns[i]? = some x)
    (ht : ∀ H', Same H1 H' → ∀ R : Bool → Hp → Prop, R (p x) H' → tt ((wipe σ vs).set j (some (.int x))) H' R) (he : ∀ H', Same H1 H' → ∀ R : VK, R (.int x) H' → te ((wipe σ vs).set j (some (.int x))) H' R)
    (h : Same H1 H ∧ H D = some (.lst (((ns.take i).filter p).map V.int))) :
    tt ((wipe σ vs).set j (some (.int x))) H fun b H3 => if b = true then te ((wipe σ vs).set j (some (.int x))) H3 fun y H4 => ∃ acc, H4 D = some (.lst acc) ∧ acc.length < sizeLine ∧ (Same H1 (upd H4 D (.lst (acc ++ [y]))) ∧ upd H4 D (.lst (acc ++ [y])) D = some (.lst (((ns.take (i + 1)).filter p).map V.int)))
      else (Same H1 H3 ∧ H3 D = some (.lst (((ns.take (i + 1)).filter p).map V.int))) := by
  obtain ⟨e, hD⟩ := h
  refine ht H e _ ?_
  have ef := filter_take_succ (p := p) hx
  cases hp : p x with
  | true =>
    rw [hp] at ef
    refine iteT (he H e _ ⟨_, hD, ?_, e.mut nD, ?_⟩)
    · rw [List.length_map]
      have h1 := List.length_filter_le p (ns.take i)
      have h2 := List.length_take_le i ns
      have h3 : (ns.take i).length ≤ ns.length := by rw [List.length_take]; exact Nat.min_le_right _ _
      rw [sizeLine_eq]; omega
    · rw [upd_same, ef, List.map_append]
      rfl
  | false =>
    rw [hp] at ef
    refine iteF ⟨e, ?_⟩
    rw [ef, if_neg (by decide), List.append_nil]
    exact hD
def lcT_filter {ns : List Int} (p : Int → Bool) (hs : SqT K H1 a (ns.map V.int)) (nD : H1 D = none) (hlen : ns.length < 100000) (hw : ∀ x, wipe ((wipe σ vs).set j (some x)) vs = wipe σ vs)
    (ht : ∀ x ∈ ns, ∀ H', Same H1 H' → ∀ R : Bool → Hp → Prop, R (p x) H' → tt ((wipe σ vs).set j (some (.int x))) H' R) (he : ∀ x ∈ ns, ∀ H', Same H1 H' → ∀ R : VK, R (.int x) H' → te ((wipe σ vs).set j (some (.int x))) H' R)
    (k : ∀ H', Same H1 H' → H' D = some (.lst ((ns.filter p).map V.int)) → Qd H') := 
  lc_tup (K := K) (a := a) (xs := ns.map V.int) (g := gName j) (tt := tt) (te := te) (vs := vs) (σ := σ) (H1 := H1) (D := D) (Qd := Qd) (fun i H => Same H1 H ∧ H D = some (.lst (((ns.take i).filter p).map V.int))) ⟨same_upd nD, upd_same⟩ (fun i H _ h => h.1.seqT hs)
    (fun i y H hi h => by
      obtain ⟨x, hx, rfl⟩ := get_map_int hi
      have hm := List.mem_of_getElem? hx
      exact ⟨hw _, filt_turn nD hlen hx (ht x hm) (he x hm) h⟩)
    (fun H h => k H h.1 (by have := h.2; rw [List.length_map, List.take_length] at this; exact this))
def lcL_filter {ns : List Int} (p : Int → Bool) (hs : SqL K H1 a (ns.map V.int)) (nD : H1 D = none) (hlen : ns.length < 100000) (hw : ∀ x, wipe ((wipe σ vs).set j (some x)) vs = wipe σ vs)
    (ht : ∀ x ∈ ns, ∀ H', Same H1 H' → ∀ R : Bool → Hp → Prop, R (p x) H' → tt ((wipe σ vs).set j (some (.int x))) H' R) (he : ∀ x ∈ ns, ∀ H', Same H1 H' → ∀ R : VK, R (.int x) H' → te ((wipe σ vs).set j (some (.int x))) H' R)
    (k : ∀ H', Same H1 H' → H' D = some (.lst ((ns.filter p).map V.int)) → Qd H') := 
  lc_list (K := K) (a := a) (xs := ns.map V.int) (g := gName j) (tt := tt) (te := te) (vs := vs) (σ := σ) (H1 := H1) (D := D) (Qd := Qd) (fun i H => Same H1 H ∧ H D = some (.lst (((ns.take i).filter p).map V.int))) ⟨same_upd nD, upd_same⟩ (fun i H _ h => h.1.seq hs)
    (fun i y H hi h => by
      obtain ⟨x, hx, rfl⟩ := get_map_int hi
      have hm := List.mem_of_getElem? hx
      exact ⟨hw _, filt_turn nD hlen hx (ht x hm) (he x hm) h⟩)
    (fun H h => k H h.1 (by have := h.2; rw [List.length_map, List.take_length] at this; exact this))
def rgI (n : Nat) : List Int := (List.range n).map fun i => ((i : Nat) : Int)
theorem rgI_get {n i : Nat} (h : i < n) : (rgI n)[i]? = some (i : Int) := by
  unfold rgI
  rw [List.getElem?_map, List.getElem?_range h]
  rfl
theorem rgI_length (n : Nat) : (rgI n).length = n := by unfold rgI; rw [List.length_map, List.length_range]
theorem mem_rgI {n : Nat} {x : Int} : x ∈ rgI n ↔ 0 ≤ x ∧ x < n := by
  unfold rgI
  rw [List.mem_map]
  constructor
  · rintro ⟨i, h, rfl⟩
    have := List.mem_range.mp h
    omega
  · rintro ⟨h0, h1⟩
    exact ⟨x.toNat, List.mem_range.mpr (by omega), by omega⟩
def lcR_filter {n : Nat} (p : Int → Bool) (nD : H1 D = none) (hlen : n < 100000) (hw : ∀ x, wipe ((wipe σ vs).set j (some x)) vs = wipe σ vs)
    (ht : ∀ x ∈ rgI n, ∀ H', Same H1 H' → ∀ R : Bool → Hp → Prop, R (p x) H' → tt ((wipe σ vs).set j (some (.int x))) H' R) (he : ∀ x ∈ rgI n, ∀ H', Same H1 H' → ∀ R : VK, R (.int x) H' → te ((wipe σ vs).set j (some (.int x))) H' R)
    (k : ∀ H', Same H1 H' → H' D = some (.lst (((rgI n).filter p).map V.int)) → Qd H') := 
  lc_range (lo := 0) (n := n) (g := gName j) (tt := tt) (te := te) (vs := vs) (σ := σ) (H1 := H1) (D := D) (Qd := Qd) (fun i H => Same H1 H ∧ H D = some (.lst ((((rgI n).take i).filter p).map V.int))) ⟨same_upd nD, upd_same⟩
    (fun i H hi h => by
      have hx := rgI_get hi
      have hm := List.mem_of_getElem? hx
      have e0 : (0 : Int) + ((i : Nat) : Int) = (i : Int) := Int.zero_add _
      rw [e0]
      exact ⟨hw _, filt_turn nD (by rw [rgI_length]; exact hlen) hx (ht _ hm) (he _ hm) h⟩)
    (fun H h => k H h.1 (by have := h.2; rw [List.take_of_length_le (by rw [rgI_length]; exact Nat.le_refl n)] at this; exact this))
theorem in_k {K : PySem.W.Frag} {neg : Bool} {x : Int} {q : Addr} {ns : List Int} {H : Hp} {Q : VK} (h : SqL K H q (ns.map V.int) ∨ SqT K H q (ns.map V.int)) (k : Q (.bl (if neg then !decide (x ∈ ns) else decide (x ∈ ns))) H) : rIn K neg (.int x) (.ref q) H Q :=
  ⟨q, _, rfl, h, rfl, flat_ints ns, by rw [in_ints]; exact k⟩
theorem tup_of {K : PySem.W.Frag} {H : Hp} {q : Addr} {xs : List V} (h : H q = some (.tup xs)) : SqT K H q xs := .inl (.inl h)
theorem lst_of {K : PySem.W.Frag} {H : Hp} {q : Addr} {xs : List V} (h : H q = some (.lst xs)) : SqL K H q xs := .inl (.inl h)
end
def Draws (K : PySem.W.Frag) (p : Addr) (c : Nat) (H H' : Hp) : Prop := Gd H H' ∧ PoolOk K p c H'
/-- _law_some: a new list of fewer than m questions -/
def spSome (K : PySem.W.Frag) : Sp := fun vs H Q _ => ∃ (p : Addr) (c : Nat) (m : Int), vs = [.ref p, .int m] ∧ PoolOk K p c H ∧ c + 200 < LIM ∧ 0 < m ∧ m ≤ 100 ∧
  ∀ H' D l, H D = none → Gd H H' → PoolOk K p (c + 200) H' → H' D = some (.lst (l.map V.int)) → Qn l → (l.length : Int) < m → Q (.ref D) H'
/-- _law_set: the ascending list -/
def spSet (K : PySem.W.Frag) : Sp := fun vs H Q _ => ∃ (q : Addr) (l : List Int), vs = [.ref q] ∧ SqL K H q (l.map V.int) ∧
  ∀ H' D, H D = none → Same H H' → H' D = some (.lst ((norm l).map V.int)) → Q (.ref D) H'
theorem ask_rg : ask48 = rgI 48 := rfl
theorem norm_rg (l : List Int) : (rgI 48).filter (fun x => decide (x ∈ l)) = norm l := rfl
theorem own_bin {C x y : Addr} {f : List Int → List Int → List Int} {l m : List Int} {H : Hp} {Q : VK} {E : XK} (px : PupAt C H x l) (py : PupAt C H y m) (k : ∀ z H', H z = none → Same H H' → PupAt C H' z (f l m) → Q (.ref z) H') :
    rOwn C (spBin C f) E (.ref x) (.ref y) H Q := by
  obtain ⟨dx, t, hx, _⟩ := id px
  obtain ⟨dy, u, hy, _⟩ := id py
  exact ⟨x, y, dx, dy, _, _, rfl, rfl, hx, hy, x, y, l, m, rfl, px, py, k⟩
theorem own_rel {C x y : Addr} {f : List Int → List Int → Bool} {l m : List Int} {H : Hp} {Q : VK} {E : XK} (px : PupAt C H x l) (py : PupAt C H y m) (k : ∀ H', Same H H' → Q (.bl (f (norm l) (norm m))) H') :
    rOwn C (spRel C f) E (.ref x) (.ref y) H Q := by
  obtain ⟨dx, t, hx, _⟩ := id px
  obtain ⟨dy, u, hy, _⟩ := id py
  exact ⟨x, y, dx, dy, _, _, rfl, rfl, hx, hy, x, y, l, m, rfl, px, py, k⟩
theorem fld_rights {K : PySem.W.Frag} {C x : Addr} {l : List Int} {H : Hp} {Q : VK} (px : PupAt C H x l) (c : Cls K C) (n : NoAttr K C "rights") (k : ∀ t, H t = some (.tup ((norm l).map V.int)) → Q (.ref t) H) :
    ∃ a C dx fs v, V.ref x = .ref a ∧ H a = some (.ins C dx fs) ∧ Cls K C ∧ NoAttr K C "rights" ∧ fs.lookup ("rights" : Str) = some v ∧ Q v H := by
  obtain ⟨dx, t, hx, ht⟩ := px
  exact ⟨x, C, dx, _, .ref t, rfl, hx, c, n, rfl, k t ht⟩
/-! the pure facts -/
theorem le_within {l m : List Int} (h1 : Qn l) : fLe (norm l) (norm m) = decide (l.filter (fun x => !decide (x ∈ m)) = []) := by
  rw [Bool.eq_iff_iff]
  unfold fLe
  rw [List.all_eq_true, decide_eq_true_eq, List.filter_eq_nil_iff]
  constructor
  · intro h x hx
    have := h x (mem_norm.mpr ⟨h1 x hx, hx⟩)
    rw [decide_eq_true_eq, mem_norm] at this
    simp [this.2]
  · intro h x hx
    obtain ⟨a, b⟩ := mem_norm.mp hx
    have := h x b
    rw [decide_eq_true_eq, mem_norm]
    exact ⟨a, by simpa using this⟩
theorem or_within {l m : List Int} (h1 : Qn l) : fEq (norm (fOr l m)) (norm m) = decide (l.filter (fun x => !decide (x ∈ m)) = []) := by
  rw [Bool.eq_iff_iff]
  unfold fEq fOr
  rw [decide_eq_true_eq, decide_eq_true_eq, List.filter_eq_nil_iff, norm_eq_iff]
  constructor
  · intro h x hx
    have := (h x (h1 x hx).1 (h1 x hx).2).mp (List.mem_append.mpr (.inl hx))
    simp [this]
  · intro h x h0 h1
    rw [List.mem_append]
    exact ⟨fun a => a.elim (fun b => by simpa using h x b) id, .inr⟩
theorem and_within {l m : List Int} (h1 : Qn l) : fEq (norm (fAnd l m)) (norm l) = decide (l.filter (fun x => !decide (x ∈ m)) = []) := by
  rw [Bool.eq_iff_iff]
  unfold fEq fAnd
  rw [decide_eq_true_eq, decide_eq_true_eq, List.filter_eq_nil_iff, norm_eq_iff]
  constructor
  · intro h x hx
    have := (h x (h1 x hx).1 (h1 x hx).2).mpr hx
    rw [List.mem_filter] at this
    simp [of_decide_eq_true this.2]
  · intro h x h0 h1
    rw [List.mem_filter]
    exact ⟨fun a => a.1, fun a => ⟨a, by simpa using h x a⟩⟩
theorem le_or (l m : List Int) : fLe (norm l) (norm (fOr l m)) = true := by
  unfold fLe fOr
  rw [List.all_eq_true]
  intro x hx
  obtain ⟨a, b⟩ := mem_norm.mp hx
  exact decide_eq_true (mem_norm.mpr ⟨a, List.mem_append.mpr (.inl b)⟩)
theorem le_and (l m : List Int) : fLe (norm (fAnd l m)) (norm m) = true := by
  unfold fLe fAnd
  rw [List.all_eq_true]
  intro x hx
  obtain ⟨a, b⟩ := mem_norm.mp hx
  exact decide_eq_true (mem_norm.mpr ⟨a, of_decide_eq_true (List.mem_filter.mp b).2⟩)
theorem sub_and (l m : List Int) : norm (fAnd (fSub l m) m) = [] := by
  unfold norm fAnd fSub
  rw [List.filter_eq_nil_iff]
  intro x _ h
  have h := of_decide_eq_true h
  rw [List.mem_filter, List.mem_filter] at h
  obtain ⟨⟨_, h2⟩, h3⟩ := h
  have := of_decide_eq_true h3
  simp [this] at h2
theorem sub_or_and (l m : List Int) : norm (fOr (fSub l m) (fAnd l m)) = norm l := norm_ext fun x h0 h1 => by
  unfold fOr fSub fAnd
  rw [List.mem_append, List.mem_filter, List.mem_filter]
  by_cases h : x ∈ m <;> simp [h]
theorem and_set (l m : List Int) : norm (fAnd l m) = (norm l).filter fun x => decide (x ∈ m) := by
  unfold fAnd
  rw [norm_filter]
theorem sub_set (l m : List Int) : norm (fSub l m) = (norm l).filter fun x => !decide (x ∈ m) := by
  unfold fSub
  rw [norm_filter]
theorem ne_false {l m : List Int} (e : l = m) : (!decide (l = m)) = false := by simp [e]
def spPair (K : PySem.W.Frag) : Sp := fun vs H Q _ => ∃ (o t : Addr) (l m : List Int), vs = [.ref o, .ref t] ∧ H o = some (.lst (l.map V.int)) ∧ H t = some (.lst (m.map V.int)) ∧ Qn l ∧ Qn m ∧ l.length ≤ 200 ∧ m.length ≤ 200 ∧ ∀ H', Same H H' → Q (.bl true) H'
theorem kit_bool {K : PySem.W.Frag} : PySem.W.kitOne K (.type "bool") (.type "bool") = some true := kit_ty (by decide +kernel)
theorem dec_self (b : Bool) : (!decide (V.bl b = V.bl b)) = false := by simp
theorem rg_ints (n : Nat) : rgV 0 (n : Int) = (rgI n).map V.int := by
  unfold rgV rgI
  rw [List.map_map, Int.sub_zero, Int.toNat_natCast]
  refine List.map_congr_left fun i _ => ?_
  show V.int (0 + (i : Int)) = V.int (i : Int)
  rw [Int.zero_add]
/-- a list of questions at r -/
def QsAt (H : Hp) (r : Addr) (l : List Int) : Prop := H r = some (.lst (l.map V.int)) ∧ Qn l ∧ l.length ≤ 200
theorem QsAt.gd {H H' : Hp} {r : Addr} {l : List Int} (e : Gd H H') (h : QsAt H r l) : QsAt H' r l := ⟨e.1 _ _ (np_ints l) h.1, h.2⟩
theorem QsAt.same {H H' : Hp} {r : Addr} {l : List Int} (e : Same H H') (h : QsAt H r l) : QsAt H' r l := h.gd e.gd
theorem two_at {x y : V} {r : Int} (h0 : 0 ≤ r) (h1 : r < 2) : atI [x, y] r = some (if r = 0 then x else y) := by
  rcases (show r = 0 ∨ r = 1 by omega) with e | e
  · subst e; exact atI0
  · subst e; exact atI1
/-! ## a pupil beside the ascending list of its questions -/
theorem np_refs (xs : List Addr) : ¬ isPool (.lst (xs.map V.ref)) := by
  rintro ⟨a, c, i, b, s, h⟩
  cases xs with
  | nil => cases h
  | cons x r =>
    injection h with h
    injection h with _ h
    cases r with
    | nil => cases h
    | cons y r => injection h with h _; cases h
def Pr (C : Addr) (H : Hp) (x y : Addr) : Prop := ∃ l, PupAt C H x l ∧ H y = some (.lst ((norm l).map V.int))
theorem Pr.same {C x y : Addr} {H H' : Hp} (e : Same H H') (h : Pr C H x y) : Pr C H' x y := let ⟨l, a, b⟩ := h; ⟨l, a.same e, e _ _ b⟩
theorem Pr.gd {C x y : Addr} {H H' : Hp} (e : Gd H H') (h : Pr C H x y) : Pr C H' x y := let ⟨l, a, b⟩ := h; ⟨l, a.gd e, e.1 _ _ (np_ints _) b⟩
theorem PupAt.mut {C x q : Addr} {H : Hp} {l : List Int} {zs : List V} {o : HO} (hq : H q = some (.lst zs)) (h : PupAt C H x l) : PupAt C (upd H q o) x l := by
  obtain ⟨dx, t, h1, h2⟩ := h
  exact ⟨dx, t, by rw [upd_ne (ne_of h1 hq (by intro z; cases z))]; exact h1, by rw [upd_ne (ne_of h2 hq (by intro z; cases z))]; exact h2⟩
theorem Pr.mut {C x y q : Addr} {H : Hp} {zs : List V} {o : HO} (hq : H q = some (.lst zs)) (ne : y ≠ q) (h : Pr C H x y) : Pr C (upd H q o) x y := let ⟨l, a, b⟩ := h; ⟨l, a.mut hq, by rw [upd_ne ne]; exact b⟩
theorem Pr.ne {C x y q z : Addr} {H : Hp} {zs : List V} (h : Pr C H x y) (hq : H q = some (.lst (.ref z :: zs))) : y ≠ q := by
  obtain ⟨l, a, b⟩ := h
  refine ne_of b hq fun e => ?_
  injection e with e
  cases hn : norm l with
  | nil => rw [hn] at e; cases e
  | cons u r => rw [hn] at e; injection e with e _; cases e
def Tri (C : Addr) (H : Hp) (PL SL : Addr) (xs ys : List Addr) : Prop := H PL = some (.lst (xs.map V.ref)) ∧ H SL = some (.lst (ys.map V.ref)) ∧ xs.length = 3 ∧ ys.length = 3 ∧ ∀ (k : Nat) x y, xs[k]? = some x → ys[k]? = some y → Pr C H x y
theorem Tri.gd {C PL SL : Addr} {H H' : Hp} {xs ys : List Addr} (e : Gd H H') (h : Tri C H PL SL xs ys) : Tri C H' PL SL xs ys :=
  ⟨e.1 _ _ (np_refs _) h.1, e.1 _ _ (np_refs _) h.2.1, h.2.2.1, h.2.2.2.1, fun k x y a b => (h.2.2.2.2 k x y a b).gd e⟩
theorem at_ref {xs : List Addr} {r : Int} (h0 : 0 ≤ r) (h1 : r < (xs.length : Int)) : ∃ (j : Nat) (x : Addr), xs[j]? = some x ∧ r = (j : Int) ∧ j < xs.length ∧ atI (xs.map V.ref) r = some (.ref x) := by
  obtain ⟨j, rfl⟩ : ∃ j : Nat, r = (j : Int) := ⟨r.toNat, by omega⟩
  have hj : j < xs.length := by omega
  refine ⟨j, xs[j], List.getElem?_eq_getElem hj, rfl, hj, atI_nat ?_⟩
  rw [List.getElem?_map, List.getElem?_eq_getElem hj]
  rfl
theorem get3 {xs : List Addr} {j : Nat} (h : xs.length = 3) (hj : j < 3) : ∃ x, xs[j]? = some x := ⟨xs[j]'(by omega), List.getElem?_eq_getElem _⟩
def spHas (C : Addr) : Sp := fun vs H Q _ => ∃ (a : Addr) (p : List Int) (z : Int), vs = [.ref a, .int z] ∧ PupAt C H a p ∧ Q (.bl (decide (z ∈ norm p))) H
def spLen (C : Addr) : Sp := fun vs H Q _ => ∃ (a : Addr) (p : List Int), vs = [.ref a] ∧ PupAt C H a p ∧ Q (.int ((norm p).length : Nat)) H
def spAdded (C : Addr) : Sp := fun vs H Q _ => ∃ (a : Addr) (p : List Int) (z : Int), vs = [.ref a, .int z] ∧ PupAt C H a p ∧ 0 ≤ z ∧ z < 48 ∧ ∀ x H', H x = none → Same H H' → PupAt C H' x (p ++ [z]) → Q (.ref x) H'
def spAfter (K : PySem.W.Frag) (C : Addr) : Sp := fun vs H Q _ => ∃ (p PL SL : Addr) (c : Nat) (xs ys : List Addr), vs = [.ref p, .ref PL, .ref SL] ∧ PoolOk K p c H ∧ c + 100 < LIM ∧ Tri C H PL SL xs ys ∧
  ∀ H' t x y, Gd H H' → PoolOk K p (c + 100) H' → H' t = some (.tup [.ref x, .ref y]) → H y = none → Pr C H' x y → Q (.ref t) H'
def spRight (C : Addr) : Sp := fun vs H Q _ => ∃ (PL SL : Addr) (xs ys : List Addr), vs = [.ref PL, .ref SL] ∧ Tri C H PL SL xs ys ∧ ∀ H', Same H H' → Q (.bl true) H'
theorem own_has {C x : Addr} {neg : Bool} {z : Int} {p : List Int} {H : Hp} {Q : VK} {E : XK} (px : PupAt C H x p) (k : Q (.bl (if neg then !decide (z ∈ norm p) else decide (z ∈ norm p))) H) : rOwnIn C (spHas C) E neg (.int z) (.ref x) H Q := by
  obtain ⟨dx, t, hx, _⟩ := id px
  exact ⟨x, dx, _, rfl, hx, x, p, z, rfl, px, _, rfl, k⟩
theorem own_len {C x : Addr} {p : List Int} {H : Hp} {Q : VK} {E : XK} (px : PupAt C H x p) (k : Q (.int ((norm p).length : Nat)) H) : rOwnLen C (spLen C) E [.ref x] H Q := by
  obtain ⟨dx, t, hx, _⟩ := id px
  have := norm_len p
  exact ⟨x, dx, _, rfl, hx, x, p, rfl, px, _, rfl, by omega, by omega, k⟩
theorem le_listW (l m : List Int) : fLe (norm l) (norm m) = decide ((norm l).filter (fun x => !decide (x ∈ norm m)) = []) := by
  have := le_within (m := norm m) (qn_norm l)
  rw [norm_norm, norm_norm] at this
  exact this
theorem dpAll_bls {K : PySem.W.Frag} {H : Hp} : ∀ bs : List Bool, DpAll K H (bs.map V.bl) (bs.map PyData.bool)
  | [] => .nil
  | n :: r => .cons (.bl n) (dpAll_bls r)
theorem canLay_bls : ∀ ns : List Bool, PyData.canLayAll0 (ns.map PyData.bool) = true
  | [] => by rw [List.map_nil, PyData.canLayAll0]
  | n :: r => by
    rw [List.map_cons, PyData.canLayAll0, canLay_bls r]
    rfl
theorem depth_bls : ∀ ns : List Bool, PyData.depthAll (ns.map PyData.bool) = 0
  | [] => by rw [List.map_nil, PyData.depthAll]
  | n :: r => by
    rw [List.map_cons, PyData.depthAll, depth_bls r]
    rfl
theorem shB (ns : List Bool) : SeqAt.shaped (.list (ns.map PyData.bool)) = true := by
  simp [SeqAt.shaped, PyData.canLay0, canLay_bls, PyData.depth, depth_bls]
theorem evAll_bls : ∀ ns : List Bool, PyData.eqvAll (ns.map PyData.bool) (ns.map PyData.bool) = true
  | [] => by rw [List.map_nil, PyData.eqvAll]
  | n :: r => by
    rw [List.map_cons, PyData.eqvAll, evAll_bls r]
    cases n <;> simp [PyData.eqv]
theorem neD_bls {K : PySem.W.Frag} {H : Hp} {a b : Addr} {ns : List Bool} {Q : VK} (h1 : SqL K H a (ns.map V.bl)) (h2 : SqL K H b (ns.map V.bl)) (q : Q (.bl false) H) : rNeD K (.ref a) (.ref b) H Q :=
  ⟨_, _, .lst h1 (dpAll_bls ns), .lst h2 (dpAll_bls ns), shB ns, shB ns, by rw [PyData.eqv, evAll_bls]; exact q⟩
theorem take_get {α : Type} {l : List α} {i : Nat} {x : α} (h : l[i]? = some x) : l.take (i + 1) = l.take i ++ [x] := by
  rw [List.take_add_one, h]
  rfl
end L2

namespace L2
open PySem PySem.Spec PyProof.Rows LamX NdefX
/-! ## a lambda with parameters, handed to a def that calls it -/
theorem cells_un {cl : List (Str × Addr)} {fr : List Str} {ws : List (Option V)} {fs : List Addr} {H HZ : Hp} {h h1 : Heap} (C : CellsAt cl fr ws h H) (un : Un fs [] H HZ h h1) : CellsAt cl fr ws h1 HZ := by
  have kp : ∀ y c, cl.lookup y = some c → ∀ v, h.IsCell c v → h1.IsCell c v := fun y c e v ⟨o, ho, hd⟩ => by
    obtain ⟨sl, q⟩ := un.any ho (C.all y c e).1 (by simp)
    exact ⟨_, q, hd⟩
  refine ⟨C.len, fun y c e => ?_, C.inj, fun i y e => ?_⟩
  · obtain ⟨n, v, z⟩ := C.all y c e
    refine ⟨?_, v, kp y c e v z⟩
    obtain ⟨o, ho, _⟩ := z
    exact un.free c o ho n (by simp)
  · obtain ⟨c, hc, hv⟩ := C.has i y e
    refine ⟨c, hc, fun v ev => ?_⟩
    obtain ⟨u, r, z⟩ := hv v ev
    exact ⟨u, r, kp y c hc _ z⟩
/-- the lambda's words as of a nested def (its body and its parameters' text are not asked) -/
abbrev lamNF (X : Cx) (params : Arguments) (scope : Scope) (c' : Addr) : NF := ⟨"<lambda>", X.env.qual ++ "<lambda>", params, [], scope, cloFrom X.env.cells scope.names [], c'⟩
section
variable {X : Cx} {pins : List (Addr × Obj)} {σ : L2.St} {H : Hp} {s : Shared}
/-- a(e, ..), in the def that got the lambda -/
theorem pe_actP {CXg : CXT} {Eg : XK} {Ng : List Str} {qg : Str} {sg : Scope} {g f c' : Addr} {cdg pm ctv : Value} {params : Arguments} {body : Expr} {scope : Scope} {k i : Nat} {a : Str} {tb : TE} {p1 p2 : Pos} {N ps fr : List Str} {js : List Nat} {e : Expr} {es : List Expr} {ta : TA}
    (I : Inv X pins σ H s) (S : NScope N ps fr scope) (hnd : ndefB X.env.scope scope fr = true) (hjs : js.map (fun j => X.N[j]?) = fr.map some)
    (hf : s.heap.get? f = some (PySem.W.kla_obj "<lambda>" (X.env.qual ++ "<lambda>") params body scope (cloFrom X.env.cells scope.names []) pm c' ctv)) (hfn : H f = none) (hfr : f ∉ frs X.stack)
    (hbind : ∀ us : List Value, us.length = ps.length → bindArgs (PySem.W.kla_fn "<lambda>" (X.env.qual ++ "<lambda>") params body scope (cloFrom X.env.cells scope.names []) pm (.ref c') ctv) ⟨us, []⟩ = pure (ps.zip us))
    (hr : Room (k + 1) (X.A.deeper (envOfC qg sg s.heap.objs.size g cdg)))
    (hbody : ∀ (A : Around) (outer : List Env) (s : Shared) (H : Hp), Room k (A.deeper (envF (lamNF X params scope c') f s.heap.objs.size)) → PE (ncx CX0 X.prog X.w X.K X.mg X.base N (lamNF X params scope c') f A outer s H E0) body tb)
    (hN : Ng[i]? = some a) (hv : Vis sg a) (ha : PA (cxOf CXg X.prog X.w X.K X.mg X.base Ng qg sg g cdg X.A X.stack s H Eg).nox (e :: es) ta)
    (he : starEach (e :: es) (cxOf CXg X.prog X.w X.K X.mg X.base Ng qg sg g cdg X.A X.stack s H Eg).nox.env = (false, eval e (cxOf CXg X.prog X.w X.K X.mg X.base Ng qg sg g cdg X.A X.stack s H Eg).nox.env) :: starEach es (cxOf CXg X.prog X.w X.K X.mg X.base Ng qg sg g cdg X.A X.stack s H Eg).nox.env)
    (hpl : (backTo p2 (starEach es (cxOf CXg X.prog X.w X.K X.mg X.base Ng qg sg g cdg X.A X.stack s H Eg).nox.env)).any (·.1) = false)
    (hd : (a == ("__debug__" : Str)) = false := by decide) (hcd : (a == ("__classdict__" : Str)) = false := by decide) :
    PE (cxOf CXg X.prog X.w X.K X.mg X.base Ng qg sg g cdg X.A X.stack s H Eg).nox (.Call (.Name a p1) (e :: es) [] p2)
      (fun σZ HZ Q => σZ[i]? = some (some (.ref f)) ∧ ta σZ HZ fun vs H2 => H2 c' = some (CodeO c' (X.env.qual ++ "<lambda>")) ∧ vs.length = ps.length ∧ tb (startF N vs (js.map (NdefX.slotAt σ))) H2 Q) := by
  refine ⟨fun pinsZ sZ σZ HZ Q IZ h => ?_⟩
  obtain ⟨hs, ht⟩ := h
  refine wpAny_Call_Name_kw (thn ((pe_var (pos := p1) (i := i) hN hv hd hcd).run pinsZ sZ σZ HZ (fun v H1 => v = .ref f ∧ H1 = HZ) IZ ⟨.ref f, hs, rfl, rfl⟩) fun u s1 ⟨v, H1, I1, r1, q1⟩ => ?_)
  obtain ⟨ev, eH⟩ := q1
  subst ev
  rw [eH] at I1
  obtain rfl : u = Value.ref f := r1
  have at_ : ∀ {σ' : L2.St} {H' : Hp} {s' : Shared} {pins' : List (Addr × Obj)}, Inv (cxOf CXg X.prog X.w X.K X.mg X.base Ng qg sg g cdg X.A X.stack s H Eg).nox pins' σ' H' s' → s'.heap.get? f = some (PySem.W.kla_obj "<lambda>" (X.env.qual ++ "<lambda>") params body scope (cloFrom X.env.cells scope.names []) pm c' ctv) :=
    fun {σ' H' s' pins'} J => J.base.keep f _ hf hfn hfr (fun z => nomatch (show f ∈ ([] : List Addr) from z))
  refine PySem.W.callWith_F (first := []) ⟨_, _, _, _, at_ I1⟩ (thn (ha.run p2 pinsZ s1 σZ HZ _ I1 ht) fun us s2 ⟨vs, H2, I2, r, hc, hl, q⟩ => ⟨⟨_, _, _, _, at_ I2⟩, ?_⟩) he hpl
  show wpAny _ _ (call (.ref f) us) _ _ _
  have of2 := at_ I2
  have un : Un (frs X.stack) [] H H2 s.heap s2.heap := I2.base
  obtain ⟨⟨oc, vc, t, hoc, hdc, hvc⟩, _, _⟩ := I2.hok c' _ hc
  have C0 : CellsAt (cloFrom X.env.cells scope.names []) fr (js.map (NdefX.slotAt σ)) s.heap H := cells_of I (Caps.made I.ok (ndef_free hnd) (ndef_fr hnd) hjs)
  have C : CellsAt (lamNF X params scope c').cl fr (js.map (NdefX.slotAt σ)) s2.heap H2 := cells_un C0 un
  have rc : codeAny (model X.prog X.w) (X.A.deeper (envOfC qg sg s.heap.objs.size g cdg)) (.call (.ref f) ⟨us, []⟩) (CR CX0 (envOfC qg sg s.heap.objs.size g cdg :: X.stack) X.prog X.w H2 s2 Q E0) s2 := by
    refine PySem.W.kla_callFunE hr.depth of2 rfl S.co S.gen rfl ⟨c', oc, vc, t, rfl, hoc, hdc, hvc⟩ ?_
    rw [hbind us (by rw [← r.length]; exact hl)]
    refine wpAny_pure (wpAny_newFunctionEnv S.nocell (fun ⟨n, _⟩ hy => S.par n (List.of_mem_zip hy).1) (fun h₁ hns hsb => ⟨I2.nolimit.fresh _ hsb, ?_⟩) S.kind)
    show codeAny _ _ (.expr body (envF (lamNF X params scope c') f s2.heap.objs.size)) _ _
    have kp : ∀ b o, s2.heap.get? b = some o → h₁.get? b = some o := fun b o e => hsb.extBut b o (Nat.ne_of_lt (Heap.lt_size e)) (Heap.get?_push_of_some _ e)
    have J : Inv (ncx CX0 X.prog X.w X.K X.mg X.base N (lamNF X params scope c') f (X.A.deeper (envOfC qg sg s.heap.objs.size g cdg)) (envOfC qg sg s.heap.objs.size g cdg :: X.stack) s2 H2 E0) [] (startF N vs (js.map (NdefX.slotAt σ))) H2 { s2 with heap := h₁, toks := s2.toks + (ps.zip us).length } :=
      inv_startN S hr.hd I2.env0 hl r C hns kp
    refine PySem.W.kla_codeExpr (wpAny_mono ((hbody _ _ s2 H2 (hr.deeper _)).run [] _ _ H2 Q J q) (fun v s' hq => ?_) fun e s' hq => hq)
    obtain ⟨w', H', J', rv, q⟩ := hq
    exact ⟨w', H', J'.os, J'.bare, J'.base, J'.hok, rv, q⟩
  refine wpAny_call (codeAny_mono rc fun r s' hq => ?_)
  cases r with
  | error e => exact (show False from hq).elim
  | ok fl =>
    cases fl with
    | ret u => exact I2.after hq
    | next => exact False.elim hq
    | brk => exact False.elim hq
    | cont => exact False.elim hq
end
/-- the def that calls what it got as its second argument; TT: what it makes of the lambda's reading -/
def GivesTo2 (P : Program) (w : World) (K : PySem.W.Frag) (mg : Str → Option Value) (base : Heap) (A : Around) (stk : List Env) (Ng : List Str) (x : Str) (sg : Scope) (g : Addr) (cdg : Value) (bg : List Stmt) (a : Str) (k : Nat) (TT : Addr → V → (List V → Hp → VK → Prop) → Hp → VK → Prop) : Prop :=
  ∀ (f c' : Addr) (s : Shared) (H : Hp) (Q : VK) (v1 : V) (q : Str) (tl : List V → Hp → VK → Prop), Room k (A.deeper (envOfC x sg s.heap.objs.size g cdg)) →
    (∀ (p1 p2 : Pos) (e : Expr) (es : List Expr) (ta : TA), PA (cxOf CX0 P w K mg base Ng x sg g cdg A stk s H E0).nox (e :: es) ta →
      starEach (e :: es) (cxOf CX0 P w K mg base Ng x sg g cdg A stk s H E0).nox.env = (false, eval e (cxOf CX0 P w K mg base Ng x sg g cdg A stk s H E0).nox.env) :: starEach es (cxOf CX0 P w K mg base Ng x sg g cdg A stk s H E0).nox.env →
      (backTo p2 (starEach es (cxOf CX0 P w K mg base Ng x sg g cdg A stk s H E0).nox.env)).any (·.1) = false →
      PE (cxOf CX0 P w K mg base Ng x sg g cdg A stk s H E0).nox (.Call (.Name a p1) (e :: es) [] p2) (fun σZ HZ Q => σZ[1]? = some (some (.ref f)) ∧ ta σZ HZ fun vs H2 => H2 c' = some (CodeO c' q) ∧ tl vs H2 Q)) →
    H c' = some (CodeO c' q) → TT c' v1 tl H Q →
    ∃ t, PSs (cxOf CX0 P w K mg base Ng x sg g cdg A stk s H E0).nox bg t ∧ t { nx := fun _ H' => Q .non H', rt := Q } (L2.start Ng [v1, .ref f]) H
def tLam2 (T : List (Addr × Str)) (TT : Addr → V → (List V → Hp → VK → Prop) → Hp → VK → Prop) (te : TE) (N ps : List Str) (js : List Nat) (tb : TE) : TE := fun σ H Q => te σ H fun v1 H1 => Tabs T H1 ∧ ∀ c' H2, ExtN H1 H2 → Tabs T H2 → TT c' v1 (fun vs H' Q' => vs.length = ps.length ∧ tb (startF N vs (js.map (NdefX.slotAt σ))) H' Q') H2 Q
section
variable {X : Cx}
/-- x(e, lambda ..: body) -/
theorem pe_lamcall2 {T : List (Addr × Str)} {TT : Addr → V → (List V → Hp → VK → Prop) → Hp → VK → Prop} {x a0 a : Str} {g c P : Addr} {k : Nat} {pg : Arguments} {bg : List Stmt} {sg : Scope} {dV kV doc pm cdv ct oc : Value} {an od : Option Addr} {osl : Array (Option Value)} {Ng N ps fr : List Str} {js : List Nat}
    {params : Arguments} {e body : Expr} {scope : Scope} {te tb : TE} {p lpos pos : Pos} (hg : Gl X x) (hm : X.mg x = some (.ref g)) (hk : PySem.W.keepIn X.K (.ref g) = true)
    (lk : X.K.lookup g = some ⟨oc, od, .func (PySem.W.fnOf x x pg bg sg dV kV doc pm an cdv ct), osl⟩) (hcg : PySem.W.codeIn X.K cdv x = true) (hb : L2.Binds X.K (PySem.W.fnOf x x pg bg sg dV kV doc pm an cdv ct) [a0, a] []) (Sg : FnScope Ng [a0, a] sg) (hNg : Ng[1]? = some a) (hva : Vis sg a)
    (hG : GivesTo2 X.prog X.w X.K X.mg X.base X.A X.stack Ng x sg g cdv bg a (k + 1) TT)
    (TB : TabB X.base X.mg c P) (hcode : X.env.code = .ref c) (hmT : (P, X.env.qual ++ "<lambda>") ∈ T) (hu : ∀ p ∈ T, p.1 = P → p.2 = X.env.qual ++ "<lambda>") (hr : Room (k + 2) X.A)
    (S : NScope N ps fr scope) (hnd : ndefB X.env.scope scope fr = true) (hjs : js.map (fun j => X.N[j]?) = fr.map some) (hdef : defaultsOf params X.env = ([], []))
    (hbind : ∀ (q : Str) (cl : List (Str × Addr)) (pm cv ctv : Value) (us : List Value), us.length = ps.length → bindArgs (PySem.W.kla_fn "<lambda>" q params body scope cl pm cv ctv) ⟨us, []⟩ = pure (ps.zip us))
    (hbody : ∀ (A : Around) (outer : List Env) (s : Shared) (H : Hp) (f c' : Addr), Room k (A.deeper (envF (lamNF X params scope c') f s.heap.objs.size)) → PE (ncx CX0 X.prog X.w X.K X.mg X.base N (lamNF X params scope c') f A outer s H E0) body tb)
    (he : PE X e te)
    (hs : starEach [e, .Lambda params body scope lpos] X.env = (false, eval e X.env) :: starEach [.Lambda params body scope lpos] X.env := by rfl)
    (hdb : (x == ("__debug__" : Str)) = false := by decide) (hd : (a == ("__debug__" : Str)) = false := by decide) (hcd : (a == ("__classdict__" : Str)) = false := by decide) :
    PE X (.Call (.Name x p) [e, .Lambda params body scope lpos] [] pos) (tLam2 T TT te N ps js tb) := by
  refine ⟨fun pins s σ H Q I h => ?_⟩
  unfold tLam2 at h
  refine wpAny_Call_Name_kw (ld_glob I hg hm ?_ hdb)
  refine PySem.W.callWith_K (h₀ := X.base) I.ok.mod.kin hk ?_ hs (by rfl)
  rw [hs]
  show wpAny _ _ (spliced ((false, eval e X.env) :: (false, eval (.Lambda params body scope lpos) X.env) :: backTo pos (starEach [] X.env))) _ _ s
  refine Calls.spliced_cons (thn (he.run pins s σ H _ I h) fun u1 s1 ⟨v1, H1, I1, r1, hT, h⟩ => ?_)
  refine Calls.spliced_cons (lam_make2 I1 TB hcode hmT hu hT hdef (fun y hy e => (ndef_free hnd y hy e).elim (fun z => I1.ok.has _ (.inl z)) fun z => I1.ok.has _ (.inr z)) fun f c' pm' ctv H2 s' I2 eN T2 hf hfn hfr hco => ?_)
  refine Calls.spliced_nil ⟨I2.kIn, ?_⟩
  have rc : codeAny (model X.prog X.w) X.A (.call (.ref g) ⟨[u1, .ref f], []⟩) (CR CX0 X.stack X.prog X.w H2 s' Q E0) s' := by
    refine run_ofS (N := Ng) (ps := [a0, a]) (us := [u1, .ref f]) (vs := [v1, .ref f]) lk hcg Sg hr I2.env0 (hb s' [u1, .ref f] I2.kIn rfl) (.cons r1 (.cons rfl .nil)) rfl fun hr' => ?_
    obtain ⟨t', ht', hq'⟩ := hG f c' s' H2 Q v1 (X.env.qual ++ "<lambda>") (fun vs H' Q' => vs.length = ps.length ∧ tb (startF N vs (js.map (NdefX.slotAt σ))) H' Q') hr' (fun p1 p2 e es ta ha he hpl => pe_actP (i := 1) I2 S hnd hjs hf hfn hfr (hbind _ _ _ _ _) hr' (fun A outer s H hr2 => hbody A outer s H f c' hr2) hNg hva ha he hpl hd hcd) hco (h c' H2 eN T2)
    exact ⟨t', ht'.nox, hq'⟩
  refine wpAny_call (codeAny_mono rc fun r s2 hq => ?_)
  cases r with
  | error e => exact (show False from hq).elim
  | ok fl =>
    cases fl with
    | ret u => exact I2.after hq
    | next => exact False.elim hq
    | brk => exact False.elim hq
    | cont => exact False.elim hq
/-- the same, of a def of the module -/
theorem pe_lamcall2F {T : List (Addr × Str)} {TT : Addr → V → (List V → Hp → VK → Prop) → Hp → VK → Prop} {x a0 a : Str} {st : Stmt} {g c P : Addr} {fd : FuncData} {k : Nat} {Ng N ps fr : List Str} {js : List Nat}
    {params : Arguments} {e body : Expr} {scope : Scope} {te tb : TE} {p lpos pos : Pos} (F : Fun X.K x x st g fd) (hk : PySem.W.keepIn X.K (.ref g) = true) (hb : L2.Binds X.K fd [a0, a] []) (hg : Gl X x) (hm : X.mg x = some (.ref g)) (Sg : FnScope Ng [a0, a] (defScope st)) (hNg : Ng[1]? = some a) (hva : Vis (defScope st) a)
    (hG : ∀ cdv, GivesTo2 X.prog X.w X.K X.mg X.base X.A X.stack Ng x (defScope st) g cdv (defBody st) a (k + 1) TT)
    (TB : TabB X.base X.mg c P) (hcode : X.env.code = .ref c) (hmT : (P, X.env.qual ++ "<lambda>") ∈ T) (hu : ∀ p ∈ T, p.1 = P → p.2 = X.env.qual ++ "<lambda>") (hr : Room (k + 2) X.A)
    (S : NScope N ps fr scope) (hnd : ndefB X.env.scope scope fr = true) (hjs : js.map (fun j => X.N[j]?) = fr.map some) (hdef : defaultsOf params X.env = ([], []))
    (hbind : ∀ (q : Str) (cl : List (Str × Addr)) (pm cv ctv : Value) (us : List Value), us.length = ps.length → bindArgs (PySem.W.kla_fn "<lambda>" q params body scope cl pm cv ctv) ⟨us, []⟩ = pure (ps.zip us))
    (hbody : ∀ (A : Around) (outer : List Env) (s : Shared) (H : Hp) (f c' : Addr), Room k (A.deeper (envF (lamNF X params scope c') f s.heap.objs.size)) → PE (ncx CX0 X.prog X.w X.K X.mg X.base N (lamNF X params scope c') f A outer s H E0) body tb)
    (he : PE X e te)
    (hs : starEach [e, .Lambda params body scope lpos] X.env = (false, eval e X.env) :: starEach [.Lambda params body scope lpos] X.env := by rfl)
    (hdb : (x == ("__debug__" : Str)) = false := by decide) (hd : (a == ("__debug__" : Str)) = false := by decide) (hcd : (a == ("__classdict__" : Str)) = false := by decide) :
    PE X (.Call (.Name x p) [e, .Lambda params body scope lpos] [] pos) (tLam2 T TT te N ps js tb) := by
  obtain ⟨oc, od, kV, doc, pm, an, cdv, ct, osl, rfl, lk, hcd'⟩ := F.ex
  exact pe_lamcall2 hg hm hk lk hcd' hb Sg hNg hva (hG cdv) TB hcode hmT hu hr S hnd hjs hdef hbind hbody he hs hdb hd hcd
end
end L2

namespace L2
open PySem PySem.Spec PyProof.Rows LamX
/-! ## a list that a def reads: known exactly while it runs -/
def spLock (sp : Sp) : Sp := fun vs H Q E => sp vs H Q E ∨ ∃ a xs, H a = some (.lst xs) ∧ ∀ od, sp vs (upd H a (.frz od (.lst xs))) (fun v H' => Q v (upd H' a (.lst xs))) E
theorem fn_lock {P : Program} {w : World} {K : PySem.W.Frag} {mg : Str → Option Value} {base : Heap} {k : Nat} {f : Addr} {fd : FuncData} {ps : List Str} {sp : Sp} (F : FnOk P w K mg base CX0 k f fd ps sp) : FnOk P w K mg base CX0 k f fd ps (spLock sp) := by
  refine ⟨fun vs H Q E h => ?_, fun A outer s H args us vs Q E hr e0 hb r h => ?_⟩
  · rcases h with h | ⟨a, xs, _, h⟩
    · exact F.len vs H Q E h
    · exact F.len vs _ _ _ (h default)
  rcases h with h | ⟨a, xs, ha, h⟩
  · exact F.run A outer s H args us vs Q E hr e0 hb r h
  have x := e0.hok a _ ha
  obtain ⟨od, e⟩ : ∃ od, s.heap.get? a = some od := by obtain ⟨_, _, _, _, e⟩ := x; exact ⟨_, e⟩
  have ne1 : ∀ c u, H c = some u → (∀ ys, u ≠ .lst ys) → upd H a (.frz od (.lst xs)) c = some u := fun c u q n => by
    rw [upd_ne (fun z => by rw [z, ha] at q; cases q; exact n _ rfl)]
    exact q
  have hok' : HOk P w (upd H a (.frz od (.lst xs))) s.heap := fun b u q => by
    by_cases hb : b = a
    · rw [hb, upd_same] at q
      cases q
      rw [hb]
      exact ⟨e, x.stay (fun c v _ q => q) (fun c q => ne1 _ _ q (fun ys z => nomatch z)) fun c ys q => ne1 _ _ q (fun ys z => nomatch z)⟩
    · rw [upd_ne hb] at q
      exact (e0.hok b u q).stay (fun c v _ q => q) (fun c q => ne1 _ _ q (fun ys z => nomatch z)) fun c ys q => ne1 _ _ q (fun ys z => nomatch z)
  have neN : ∀ b, H b = none → b ≠ a := fun b n z => by rw [z, ha] at n; cases n
  have eN : ∀ b, H b = none → upd H a (.frz od (.lst xs)) b = none := fun b n => by rw [upd_ne (neN b n)]; exact n
  have e1 : Env0 P w K mg base A outer s (upd H a (.frz od (.lst xs))) := ⟨e0.frames, e0.mod, fun b o q => ⟨(e0.bs b o q).1, eN b (e0.bs b o q).2⟩, e0.bsz, e0.funs, fun b q => eN b (e0.frf b q), hok', e0.bare⟩
  refine codeAny_mono (F.run A outer s _ args us vs _ E hr e1 hb r (h od)) fun r s' hq => ?_
  cases r with
  | error e => exact (show False from hq).elim
  | ok fl =>
    cases fl with
    | next => exact False.elim hq
    | brk => exact False.elim hq
    | cont => exact False.elim hq
    | ret u =>
      obtain ⟨v, H1, os, bare, un, hok1, rv, q⟩ := hq
      have h1 := un.frzs a od _ upd_same
      have ne2 : ∀ c u, H1 c = some u → (∀ o ys, u ≠ .frz o ys) → upd H1 a (.lst xs) c = some u := fun c u q n => by
        rw [upd_ne (fun z => by rw [z, h1] at q; cases q; exact n _ _ rfl)]
        exact q
      refine ⟨v, upd H1 a (.lst xs), os, bare, ⟨fun b o q n => un.keep b o q (eN b n), fun b o q n => un.slot b o q (eN b n), fun b o q n hx => ?_, un.there, fun b ys q => ?_, fun b o u q => ?_, fun b ps q => ?_⟩, fun b u q => ?_, rv, q⟩
      · rw [upd_ne (neN b n)]
        exact un.free b o q (eN b n) hx
      · exact ne2 _ _ (un.tups b ys (ne1 _ _ q (fun ys z => nomatch z))) (fun o ys z => nomatch z)
      · have hb : b ≠ a := fun z => by rw [z, ha] at q; cases q
        rw [upd_ne hb]
        exact un.frzs b o u (ne1 _ _ q (fun ys z => nomatch z))
      · obtain ⟨m, q'⟩ := un.tbls b ps (ne1 _ _ q (fun ys z => nomatch z))
        exact ⟨m, ne2 _ _ q' (fun o ys z => nomatch z)⟩
      · by_cases hb : b = a
        · rw [hb, upd_same] at q
          cases q
          rw [hb]
          obtain ⟨_, x1⟩ := hok1 a _ h1
          exact x1.stay (fun c v _ q => q) (fun c q => ne2 _ _ q (fun o ys z => nomatch z)) fun c ys q => ne2 _ _ q (fun o ys z => nomatch z)
        · rw [upd_ne hb] at q
          exact (hok1 b u q).stay (fun c v _ q => q) (fun c q => ne2 _ _ q (fun o ys z => nomatch z)) fun c ys q => ne2 _ _ q (fun o ys z => nomatch z)
/-- a def whose code object is known by its address -/
theorem fn_okC {P : Program} {w : World} {K : PySem.W.Frag} {mg : Str → Option Value} {base : Heap} {x qual : Str} {st : Stmt} {f : Addr} {oc kV doc pm cdv ct : Value} {od an : Option Addr} {osl : Array (Option Value)} {N ps : List Str} {k : Nat} {sp : Sp}
    (lk : K.lookup f = some ⟨oc, od, .func (PySem.W.fnOf x qual (defArgs st) (defBody st) (defScope st) .none kV doc pm an cdv ct), osl⟩) (hcd : PySem.W.codeIn K cdv qual = true) (S : FnScope N ps (defScope st)) (len : ∀ vs H Q E, sp vs H Q E → vs.length = ps.length)
    (hbody : ∀ (A : Around) (outer : List Env) (s : Shared) (H : Hp) (vs : List V) (Q : VK) (E : XK), Room k (A.deeper (envOfC qual (defScope st) s.heap.objs.size f cdv)) → sp vs H Q E →
      ∃ t, PSs (cxOf CX0 P w K mg base N qual (defScope st) f cdv A outer s H E).nox (defBody st) t ∧ t { nx := fun _ H' => Q .non H', rt := Q } (start N vs) H) :
    FnOk P w K mg base CX0 (k + 1) f (PySem.W.fnOf x qual (defArgs st) (defBody st) (defScope st) .none kV doc pm an cdv ct) ps sp := by
  refine fn_of lk hcd S len fun A outer s H vs Q E hr hsp => ?_
  obtain ⟨t, h, q⟩ := hbody A outer s H vs Q E hr hsp
  exact ⟨t, h.nox, q⟩
/-! ## the end of a law that makes lambdas -/
def lamT (q : Str) (P : Addr) : List (Addr × Str) := [(P, (q ++ ".<locals>.") ++ "<lambda>")]
def spT (K : PySem.W.Frag) (P : Addr) : Sp := fun vs H Q _ => ∃ (x : Addr) (ns : List Int), vs = [.ref x] ∧ ScrAt K H x (ns.map V.int) ∧ ns.length ≤ 63 ∧ H P = some (.tbl #[]) ∧ ∀ H', Q (.bl true) H'
theorem walk_own {l : PySem.W.OpenLaw} {k : Nat} {q : Program} {loose : List Str} {XP : (Str → Option Value) → Heap → Prop} {YP : World → Heap → Prop} {d : DefRec} {K : Params → PySem.W.Frag} {x : Str}
    (hn : l.most = some 63) (hdf : d.params.defaults = []) (hr : Room k callerA) (hrec : ((recsOf q).any fun e => e.name == d.name) = true) (hY : ∀ (w : World) (h : Heap), YP w h → (K w.params).In h)
    (F : ∀ (w : World) (mg : Str → Option Value) (fa : Addr) (h : Heap), (K w.params).In h → h.Ns mainGlobals mg → mg d.name = some (.ref fa) → OwnTab (K w.params) fa h →
      ∃ (fd : FuncData) (c P : Addr), h.get? P = some { cls := .none, data := .fields #[] } ∧ (K w.params).lookup P = none ∧ PySem.W.CodeHd h c P ∧ (∀ (s : Shared) (u : Value), BindsTo s fd ⟨[u], []⟩ [(x, u)]) ∧
        ∀ base : Heap, (K w.params).In base → base.Ns mainGlobals mg → TabB base mg c P → FnOk l.prog w (K w.params) mg base CX0 k fa fd [x] (spT (K w.params) P)) :
    PySem.W.WalkO q loose XP YP l.row.toRowW d [] (fun f vs => PySem.call f vs) := by
  refine walk_ofOwn (n := 63) (k := k) (x := x) (CX := fun _ => CX0) hn (by decide) hdf hr hrec hY (fun w mg fa h _ KX hns hmg own => ?_) fun _ _ _ _ _ z => z
  obtain ⟨fd, c, P, h1, h2, h3, h4, h5⟩ := F w mg fa h KX hns hmg own
  refine ⟨fd, [(c, P)], spLock (spT (K w.params) P), fun p hp => ?_, fun p hp => ?_, fun p hp => ?_, h4, fun H a ns hl _ hT hS => ?_, fun base b1 b2 b3 => fn_lock (h5 base b1 b2 (b3 (c, P) (List.mem_singleton.mpr rfl)))⟩
  · rw [List.mem_singleton.mp hp]; exact h1
  · rw [List.mem_singleton.mp hp]; exact h2
  · rw [List.mem_singleton.mp hp]; exact h3
  · have hP := hT (c, P) (List.mem_singleton.mpr rfl)
    rcases hS with (hS | ⟨o, hS⟩) | hS
    · refine .inr ⟨a, _, hS, fun od => ⟨a, ns, rfl, .inl ⟨od, upd_same⟩, hl, ?_, fun _ => rfl⟩⟩
      rw [upd_ne (fun z => by rw [show P = a from z, hS] at hP; cases hP)]
      exact hP
    · exact .inl ⟨a, ns, rfl, .inl ⟨o, hS⟩, hl, hP, fun _ => rfl⟩
    · exact .inl ⟨a, ns, rfl, .inr hS, hl, hP, fun _ => rfl⟩
end L2

namespace L2
open PySem PySem.Spec PyProof.Rows
/-! ## own errors whose __init__ calls the base's by the base's name -/
/-- what the base class B says of B.__init__ -/
structure BaseI (K : PySem.W.Frag) (B : Addr) : Prop where
  ga : PySem.W.specialIn K (.ref B) "__getattribute__" = some (some (.builtin "type.__getattribute__"))
  ty : PySem.W.typeIn K (.ref B) = some (.type "type")
  rd : PySem.W.readsIn K B (.type "type") = true
  fi : PySem.W.findCls K (.ref B) (.type "type") "__init__" = some (.val (.builtin "ValueError.__init__"))
section
variable {X : Cx} {o e : Expr} {es : List Expr} {to te : TE} {ta : TA} {f x : Str} {p p' p1 p2 pos : Pos} {B : Addr}
theorem pe_binit {pl : Sem Bool} (T : BaseI X.K B) (hg : Gl X x) (hm : X.mg x = some (.ref B)) (ha : PA X (e :: es) ta) (hdb : (x == ("__debug__" : Str)) = false := by decide)
    (hc : eval (.Call (.Attribute (.Name x p1) "__init__" p2) (e :: es) [] pos) X.env = (do
      let ov ← eval (.Name x p1) X.env
      standAt p2.atName
      let (f, first) ← holding [ov] (getMethod ov "__init__" pl)
      callWith pos f first (backTo pos (starEach (e :: es) X.env)) (backToKw pos (keywordEach [] X.env))) := by rfl)
    (he : starEach (e :: es) X.env = (false, eval e X.env) :: starEach es X.env := by rfl) (hpl : (backTo pos (starEach es X.env)).any (·.1) = false := by rfl) :
    PE X (.Call (.Attribute (.Name x p1) "__init__" p2) (e :: es) [] pos) (tVeI X.K ta) := by
  refine ⟨fun pins s σ H Q I h => ?_⟩
  refine PySem.W.methodCall_KW (ld_glob I hg hm ?_ hdb) hc
  obtain ⟨m, fr⟩ := I.fr
  refine PySem.W.method_of_cls fr I.ok.mod.kin T.ga (PySem.W.cls_val fr I.ok.mod.kin T.ty T.rd T.fi (by decide +kernel) ?_)
  show wpAny _ _ (callWith pos (Value.builtin "ValueError.__init__") [] (backTo pos (starEach (e :: es) X.env)) []) _ _ _
  refine callWith_method1 (thn (ha.run pos pins _ σ H _ (I.tok _) h) fun us s1 ⟨vs, H1, I1, r1, a, C, ws, ev, hl, T, ea, q⟩ => ?_) he hpl
  subst ev
  cases r1 with
  | @cons _ u0 _ ur ra rw' =>
    obtain rfl : u0 = Value.ref a := ra
    exact oinit_ok T I1 ea (by rw [← Paired.length rw', sizeLine_eq]; omega) fun s' J => ⟨.non, H1, J, rfl, q⟩
end
/-! ## a class made, a method called, where what is raised is wished for at the slots -/
section
variable {X : Cx} {CX : CXT} {k : Nat} {f C : Addr} {fd : FuncData} {ps : List Str} {sp : Sp} {E : St → XK} {x m : Str} {p pos apos : Pos} {e o : Expr} {es : List Expr} {ta : TE} {t : TA}
def tMakeS (C : Addr) (sp : Sp) (E : St → XK) (t : TA) : TE := fun σ H Q => t σ H fun vs H1 => ∀ x dx, H1 x = none → H1 dx = none → dx ≠ x →
  sp (.ref x :: vs) (upd (upd H1 dx (.own x)) x (.ins C dx [])) (fun v H2 => v = .non ∧ Q (.ref x) H2) (E σ)
theorem run_makeS {pins : List (Addr × Obj)} {σ : St} {H : Hp} {s : Shared} {Q : VK} {us : List Value} {vs : List V} (M : Mk X.K C f) (F : FnOk X.prog X.w X.K X.mg X.base CX k f fd ps sp) (hr : Room (k + 1) X.A) (hb : Binds X.K fd ps [])
    (hx : PassesAt CX X σ (E σ)) (I : Inv X pins σ H s) (r : Vals vs us)
    (h : ∀ x dx, H x = none → H dx = none → dx ≠ x → sp (.ref x :: vs) (upd (upd H dx (.own x)) x (.ins C dx [])) (fun v H2 => v = .non ∧ Q (.ref x) H2) (E σ)) : wpAny (model X.prog X.w) X.A (call (.ref C) us) (EP X pins σ Q) X.xe s := by
  let n := s.heap.objs.size
  have want := h (n + 1) n (I.hok.fresh (Nat.le_succ n)) (I.hok.fresh (Nat.le_refl n)) (Nat.ne_of_lt (Nat.lt_succ_self n))
  have J := Inv.made (C := C) I
  have rr : Vals (V.ref (n + 1) :: vs) (Value.ref (n + 1) :: us) := Paired.cons rfl r
  have len : (Value.ref (n + 1) :: us).length = ps.length := rr.length.symm.trans (F.len _ _ _ _ want)
  have bnd := hb _ (Value.ref (n + 1) :: us) J.kIn (by rw [List.append_nil]; exact len)
  rw [List.append_nil] at bnd
  have body := F.run _ X.stack _ _ ⟨Value.ref (n + 1) :: us, []⟩ (Value.ref (n + 1) :: us) _ _ (E σ) (hr.make C us []) (J.env0.make C us []) bnd rr want
  refine wpAny_call (make_map (f := f) I.kIn M.makes M.init (beq_iff_eq.mp M.fn) (codeAny_mono body fun res s' hq => ?_))
  match res, hq with
  | .error er, hq => exact hx pins _ _ er s' J hq
  | .ok (.ret u), hq =>
    obtain ⟨v, H', I3, rv, ev, q3⟩ := J.after hq
    subst ev
    exact ⟨rv, V.ref (n + 1), H', I3, rfl, q3⟩
  | .ok .next, hq => exact hq.elim
  | .ok .brk, hq => exact hq.elim
  | .ok .cont, hq => exact hq.elim
theorem pe_makeS (M : Mk X.K C f) (F : FnOk X.prog X.w X.K X.mg X.base CX k f fd ps sp) (hr : Room (k + 1) X.A) (hg : Gl X x) (hm : X.mg x = some (.ref C)) (hb : Binds X.K fd ps []) (hx : ∀ σ, PassesAt CX X σ (E σ))
    (ha : PA X (e :: es) t) (hdb : (x == ("__debug__" : Str)) = false := by decide) (he : starEach (e :: es) X.env = (false, eval e X.env) :: starEach es X.env := by rfl) (hpl : (backTo pos (starEach es X.env)).any (·.1) = false := by rfl) :
    PE X (.Call (.Name x p) (e :: es) [] pos) (tMakeS C sp E t) :=
  ⟨fun pins s σ H Q I h => wpAny_Call_Name_kw (ld_glob I hg hm
    (PySem.W.callWith_K (h₀ := X.base) I.ok.mod.kin M.kp (thn (ha.run pos pins s σ H _ I h) fun us s1 ⟨vs, H1, I1, r, q⟩ => ⟨I1.kIn, run_makeS M F hr hb (hx σ) I1 r q⟩) he hpl) hdb)⟩
/-- o.m(e, ..), what is raised wished for at the slots -/
def tMethT (C : Addr) (m : Str) (sp : Sp) (E : St → XK) (ta : TE) (t : TA) : TE := fun σ H Q => ta σ H fun x H1 => ∃ a dx fs, x = .ref a ∧ H1 a = some (.ins C dx fs) ∧ fs.lookup m = none ∧ t σ H1 fun vs H2 => sp (.ref a :: vs) H2 Q (E σ)
theorem pe_methT {pl : Sem Bool} (ho : PE X o ta) (c : Cls X.K C) (hm : Meth X.K C m f) (F : FnOk X.prog X.w X.K X.mg X.base CX k f fd ps sp) (hr : Room k X.A) (hb : Binds X.K fd ps []) (hx : ∀ σ, PassesAt CX X σ (E σ)) (ha : PA X (e :: es) t)
    (hst : starEach (e :: es) X.env = (false, eval e X.env) :: starEach es X.env := by rfl) (hpl : (backTo pos (starEach es X.env)).any (·.1) = false := by rfl)
    (ht : eval (.Call (.Attribute o m apos) (e :: es) [] pos) X.env = (eval o X.env >>= fun ov => standAt apos.atName >>= fun _ => holding [ov] (getMethod ov m pl) >>= fun ff =>
      callWith pos ff.1 ff.2 (backTo pos (starEach (e :: es) X.env)) (backToKw pos (keywordEach [] X.env))) := by rfl) :
    PE X (.Call (.Attribute o m apos) (e :: es) [] pos) (tMethT C m sp E ta t) := by
  refine ⟨fun pins s σ H Q I h => ?_⟩
  refine PySem.W.methodCall_KW (pl := pl) (thn (ho.run pins s σ H _ I h) fun u s1 hh => ?_) ht
  obtain ⟨x, H1, I1, rx, a, dx, fs, ex, ea, l, q⟩ := hh
  subst ex
  cases rx
  refine getmeth_ok I1 ea c hm l (PySem.W.callWith_K (first := [.ref a]) (h₀ := X.base) I.ok.mod.kin hm.kp (thn (ha.run pos pins s1 σ H1 _ I1 q) fun us s2 ⟨vs, H2, I2, r, q2⟩ => ⟨I2.kIn, ?_⟩) hst hpl)
  exact run_fnS (us := .ref a :: us) (vs := .ref a :: vs) F hr hb (hx σ) I2 (.cons rfl r) q2
end
/-! ## an error is made and raised: its dict d holds its one field -/
/-- X.__init__(self, v): the base's __init__, then self.f = v -/
def spErr (C : Addr) (f : Str) (ok : V → Prop) : Sp := fun vs H Q _ => ∃ (a : Addr) (v : V), vs = [.ref a, v] ∧ ok v ∧ H a = some (exo a C none) ∧
  ∀ dx, H dx = none → dx ≠ a → Q .non (upd (upd H dx (exd dx [(f, v)])) a (exo a C (some dx)))
def okInt (v : V) : Prop := ∃ i : Int, v = .int i ∧ i.natAbs.log2 < 1920
theorem err_make {C : Addr} {f : Str} {ok : V → Prop} {v : V} {H : Hp} {W : Value → Option Addr → Hp → Prop} {E : XK} (hv : ok v) (k : ∀ d, H d = none → W (.ref C) (some d) (upd H d (.xd [(f, v)]))) :
    [v].length ≤ 1000 ∧ ∀ a, H a = none → spErr C f ok (.ref a :: ([v] ++ [])) (upd H a (exo a C none))
      (fun u H2 => u = .non ∧ ∃ (d : Addr) (fs : List (Str × V)), H2 a = some (exo a C (some d)) ∧ H2 d = some (exd d fs) ∧ H d = none ∧ W (.ref C) (some d) (upd (del H2 a) d (.xd fs))) E := by
  refine ⟨by show 1 ≤ 1000; decide, fun a na => ⟨a, v, rfl, hv, upd_same, fun dx ndx ne => ⟨rfl, dx, [(f, v)], upd_same, ?_, ?_, ?_⟩⟩⟩
  · rw [upd_ne ne, upd_same]
  · rw [upd_ne ne] at ndx
    exact ndx
  · rw [upd_ne ne] at ndx
    have e : upd (del (upd (upd (upd H a (exo a C none)) dx (exd dx [(f, v)])) a (exo a C (some dx))) a) dx (.xd [(f, v)]) = upd H dx (.xd [(f, v)]) := by
      funext b
      by_cases hb : b = dx
      · subst hb
        rw [upd_same, upd_same]
      · rw [upd_ne hb, upd_ne hb]
        by_cases ha : b = a
        · subst ha
          rw [del_same, na]
        · rw [del_ne ha, upd_ne ha, upd_ne hb, upd_ne ha]
    rw [e]
    exact k dx ndx
end L2
namespace PySem.W
open PySem PySem.Spec PySem.Calls PyProof.Rows
section
variable {prog : Program} {w : World} {A : Around} {E : Value → Shared → Prop} {s : Shared} {K : Frag} {x D : Addr} {ox : Obj} {od : Option Obj}
/-- what the class of an error says of __class__ and of its own getter -/
structure ErrK (K : Frag) (D : Addr) : Prop where
  ga : findIn K (.ref D) "__getattribute__" = some (some (.builtin "BaseException.__getattribute__"))
  gg : findIn K (.ref D) "__getattr__" = some none
  sb : subIn K (.ref D) (.type "BaseException") = some true
  hd : hasDictIn K D = true
  cl : findIn K (.ref D) "__class__" = some (some (.builtin "object.__class__"))
  gt : specialIn K (.builtin "object.__class__") "__get__" = some (some (.builtin "getset_descriptor.__get__"))
  tk : takesIn K (.builtin "object.__class__") = some true
  mr : mroIn K D (.type "object") = some true
/-- e.__class__ of an error, with a dict of its own or without -/
theorem err_cls {Q : Option Value → Shared → Prop} (Z : ErrK K D) (X : K.In s.heap) (I : InstAt s.heap x ox D od) (h : Q (some (.ref D)) { s with toks := s.toks + 1 }) : wpAny (model prog w) A (getAttr? (.ref x) "__class__") Q E s := by
  have found : findObj K D od "__class__" = some (.bind (.builtin "getset_descriptor.__get__") (.builtin "object.__class__")) := by
    obtain ⟨cd, hc, _⟩ := any_some Z.hd
    unfold findObj
    rw [hc, Option.bind_some, Z.cl, Option.bind_some]
    simp [Z.gt, Z.tk]
  rcases s with ⟨hp, gs, dr, tk, os⟩
  have la := I.type (M := model prog w); have lb := looks_findIn (M := model prog w) X Z.ga; have lc := looks_findIn (M := model prog w) X Z.gg; have ld := looks_find (M := model prog w) X I found
  have isB : Looks (model prog w) hp (isInstance (.ref x) (.type "BaseException")) true := la.andThen (looks_subIn X Z.sb)
  have n2 : (Value.builtin "BaseException.__getattribute__" == Value.builtin "object.__getattribute__") = false := by decide +kernel
  have n1 : (onTheHeap (Value.ref D) && Value.builtin "BaseException.__getattribute__" == Value.builtin "object.__getattribute__") = false := by rw [n2, Bool.and_false]
  unfold getAttr? getAttrBy? getAttrBy
  refine wpAny_bind (wpAny_mkText (wpAny_bind (wpAny_attempt (wpAny_holding (wpAny_bind (la.at (wpAny_bind (lb.at (?_ : wpAny _ _ (if (onTheHeap (Value.ref D) && Value.builtin "BaseException.__getattribute__" == Value.builtin "object.__getattribute__") = true then _ else _) _ _ _)))))))))
  rw [n1, if_neg Bool.false_ne_true]
  unfold getAttrByItsOwn hookBefore
  refine wpAny_bind (?_ : wpAny _ _ (if onTheHeap (Value.ref D) = true then _ else _) _ _ _)
  have oh : onTheHeap (Value.ref D) = true := rfl
  rw [if_pos oh]
  refine lc.at (wpAny_bind (wpAny_attempt (wpAny_holding ?_)))
  unfold callGetattribute
  rw [show (false && onTheHeap (Value.builtin "BaseException.__getattribute__")) = false from rfl, if_neg Bool.false_ne_true]
  unfold boundAndCalled
  rw [PySem.F.excAttr_ValueError.ga.bind (.ref x)]
  refine wpAny_bind (wpAny_pure (?_ : wpAny _ _ (call (.builtin "BaseException.__getattribute__") [.ref x, .str "__class__" tk]) _ _ _))
  refine wpAny_call (codeAny_call_builtin PySem.F.excAttr_ValueError.ga.plain PySem.F.entry_bexc_ga (@check_slot (model prog w) _ _ ⟨hp, gs, dr, tk + 1, os⟩ "BaseException.__getattribute__" "BaseException" "__getattribute__" (.ref x) [.str "__class__" tk] [] _ (by decide +kernel) (by decide +kernel) isB (PySem.F.args_bexc_ga (.ref x) (.str "__class__" tk)) ?_))
  unfold Builtin.«object.__getattribute__»
  refine wpAny_bind (wpAny_of_eq (a := ((Value.ref x : Value), [Value.str "__class__" tk])) (by first | rfl | (simp only [slotArgs]; rfl)) (wpAny_bind (wpAny_pure (wpAny_bind (la.at (wpAny_bind (ld.at ?_)))))))
  refine (?_ : wpAny _ _ (holding [Value.builtin "object.__class__"] (call (.builtin "getset_descriptor.__get__") [.builtin "object.__class__", .ref x, .ref D]) >>= ret) _ _ _)
  refine wpAny_bind (wpAny_holding (wpAny_call (class_get (s := ⟨hp, gs, dr, tk + 1, os⟩) (ox := ox) (od := od) X I Z.mr (wpAny_pure (?_ : wpAny _ _ (handedOut (.ref D)) _ _ _)))))
  rw [handedOut_of (v := .ref D) rfl]
  first
    | exact wpAny_pure (wpAny_pure h)
    | exact wpAny_pure h
    | exact wpAny_pure (wpAny_bind (wpAny_pure (wpAny_pure h)))
theorem err_kit (Z : ErrK K D) : KitX K (.ref x) (.ref D) (fun h => ∃ ox od, InstAt h x ox D od) := by
  have own : ∃ c' d' cd' sl', K.lookup D = some ⟨c', d', .cls cd', sl'⟩ := by
    obtain ⟨cd, hc, _⟩ := any_some Z.hd
    unfold clsIn at hc
    split at hc
    · rename_i c' d' cd' sl' ho
      exact ⟨_, _, _, _, ho⟩
    · cases hc
  obtain ⟨c', d', cd', sl', ho⟩ := own
  refine ⟨fun _ _ _ ⟨_, _, I⟩ => I.type, fun _ _ X _ A' Q' E' s' k q => ?_, fun h tp dd its n sl X htp => Bool.eq_false_iff.mpr fun q => ?_, fun X ⟨_, _, I⟩ k => err_cls Z X I k⟩
  · unfold isType loadHead
    exact wpAny_bind (wpAny_loadPart (k _ _ (X _ _ ho)) (wpAny_pure q))
  · have e : D = tp := Value.ref.inj (beq_iff_eq.mp q)
    subst e
    have z := (X _ _ ho).symm.trans htp
    cases z
end
end PySem.W
namespace L2
open PySem PySem.Spec PyProof.Rows
/-- isinstance(e, c), e the error that the suite holds, with a dict of its own at d -/
def rIsD (K : PySem.W.Frag) (cls : Value) (d : Option Addr) (a : Addr) : List V → Hp → VK → Prop := fun xs H Q => ∃ (D dd : Addr) (fs : List (Str × V)) (c : V) (cv : Value) (b : Bool), cls = .ref D ∧ d = some dd ∧ H dd = some (.xd fs) ∧ PySem.W.ErrK K D ∧ xs = [.ref a, c] ∧ ClsV c cv ∧ PySem.W.kitOne K (.ref D) cv = some b ∧ Q (.bl b) H
theorem call_isD {X : Cx} {a : Addr} {oe : Obj} {cls : Value} {d : Option Addr} {pn : List (Addr × Obj)} (hz : Zc cls d oe) (hf : ∃ vs, oe.data = .fields vs) : CallR (X.suite a ((a, oe) :: pn)) (.builtin "isinstance") (rIsD X.K cls d a) := by
  intro pins s σ H xs us Q I r h
  obtain ⟨D, dd, fs, c, cv, b, rfl, rfl, hdd, Z, rfl, hc, e, q⟩ := h
  cases r with
  | cons rx rr =>
    cases rr with
    | cons rt rr =>
      cases rr
      cases rx
      obtain rfl := hc.eq rt
      obtain ⟨hget, _⟩ := I.pin (a, oe) (List.mem_append.mpr (.inl List.mem_cons_self))
      obtain ⟨vs, hv⟩ := hf
      have hx : ObjOk X.prog X.w H s.heap dd (.xd fs) := I.hok dd _ hdd
      obtain ⟨mA, hns, _⟩ := hx
      obtain ⟨od, ho, _⟩ := lookIn_ns hns
      have J : PySem.W.InstAt s.heap a oe D (some od) := ⟨hget, hz.1, by unfold PySem.W.notCls; rw [hv] <;> rfl, by rw [hz.2]; exact ho⟩
      exact PySem.W.kia_one (PySem.W.err_kit Z) I.kIn ⟨oe, some od, J⟩ e (fun z => nomatch z) fun tk => ⟨.bl b, H, I.kept (t' := tk) fun _ _ z => z, rfl, q⟩
end L2

namespace L2
open PySem PySem.Spec PyProof.Rows
/-! ## how long the words of an error are -/
theorem len_nat {n k : Nat} (hk : 0 < k) (h : n < 10 ^ k) : (Nat.repr n).toList.length ≤ k := by
  unfold Nat.repr
  rw [String.toList_ofList]
  exact (Nat.length_toDigits_le_iff (by decide) hk).mpr h
theorem len_toString {i : Int} {k : Nat} (hk : 0 < k) (h : i.natAbs < 10 ^ k) : (toString i).toList.length ≤ k + 1 := by
  show (Int.repr i).toList.length ≤ k + 1
  unfold Int.repr
  cases i with
  | ofNat m => exact Nat.le_succ_of_le (len_nat hk h)
  | negSucc m =>
    show ("-" ++ Nat.repr (m + 1)).toList.length ≤ k + 1
    rw [String.toList_append, List.length_append]
    have := len_nat hk (show m + 1 < 10 ^ k from h)
    show 1 + _ ≤ _
    omega
theorem len_app (a b : PySem.Str) : (a ++ b).length = a.length + b.length := by
  have e1 : (a ++ b).cps.toList.length = (a ++ b).length := Array.length_toList
  have e2 : a.cps.toList.length = a.length := Array.length_toList
  have e3 : b.cps.toList.length = b.length := Array.length_toList
  rw [PySem.W.KT.app_list, List.length_append, e2, e3] at e1
  exact e1.symm
/-- a number that an error may carry -/
def Bd (i : Int) : Prop := i.natAbs < 2 ^ 400
theorem Bd.log {i : Int} (h : Bd i) : i.natAbs.log2 < 1920 := by
  by_cases h0 : i.natAbs = 0
  · rw [h0]; decide
  · exact (Nat.log2_lt h0).mpr (Nat.lt_of_lt_of_le h (Nat.pow_le_pow_right (by decide) (by decide)))
theorem Bd.len {i : Int} (h : Bd i) : (PySem.Str.ofString (toString i)).length ≤ 200 := by
  rw [PySem.ofString_length]
  exact Nat.le_trans (len_toString (k := 150) (by decide) (Nat.lt_of_lt_of_le h (by decide +kernel))) (by decide)
def okB (v : V) : Prop := ∃ i : Int, v = .int i ∧ Bd i
/-! ## a pupil made of questions of which some may be none -/
def firstBad (l : List Int) : Option Int := l.find? fun k => !decide (0 ≤ k ∧ k < 48)
theorem first_of : ∀ {l : List Int} {i : Nat} {z : Int}, l[i]? = some z → (∀ y ∈ l.take i, 0 ≤ y ∧ y < 48) → ¬ (0 ≤ z ∧ z < 48) → firstBad l = some z
  | [], i, z, h, _, _ => by simp at h
  | y :: r, 0, z, h, _, hz => by
    have e : y = z := Option.some.inj h
    subst e
    unfold firstBad
    rw [List.find?_cons, decide_eq_false hz]
    rfl
  | y :: r, i + 1, z, h, hp, hz => by
    have hy := hp y (by rw [List.take_succ_cons]; exact List.mem_cons_self)
    have := first_of (l := r) (i := i) (z := z) h (fun u hu => hp u (by rw [List.take_succ_cons]; exact List.mem_cons_of_mem _ hu)) hz
    unfold firstBad at this ⊢
    rw [List.find?_cons, decide_eq_true hy]
    exact this
theorem first_none {l : List Int} (h : Qn l) : firstBad l = none := by
  unfold firstBad
  rw [List.find?_eq_none]
  intro x hx
  rw [decide_eq_true (h x hx)]
  decide
def spInitX (K : PySem.W.Frag) (C CB : Addr) : Sp := fun vs H Q E => ∃ (x dx q : Addr) (l : List Int), vs = [.ref x, .ref q] ∧ H x = some (.ins C dx []) ∧ SqA K H q (l.map V.int) ∧ l.length ≤ 500 ∧ (∀ z ∈ l, Bd z) ∧
  (Qn l → ∀ H' t, H' x = some (.ins C dx [("rights", .ref t)]) → H' t = some (.tup ((norm l).map V.int)) → (∀ b o, b ≠ x → H b = some o → H' b = some o) → Q .non H') ∧
  ∀ z, firstBad l = some z → ∀ d H', H d = none → Same H H' → H' d = some (.xd [("number", .int z)]) → E (.ref CB) (some d) H'
theorem pupX_make {K : PySem.W.Frag} {C CB q : Addr} {H : Hp} {l : List Int} {R : Addr → Hp → Prop} {E : XK} (hq : SqA K H q (l.map V.int)) (hl : l.length ≤ 500) (hb : ∀ z ∈ l, Bd z) (k : Qn l → ∀ x H', H x = none → Same H H' → PupAt C H' x l → R x H')
    (kx : ∀ z, firstBad l = some z → ∀ d H', H d = none → Same H H' → H' d = some (.xd [("number", .int z)]) → E (.ref CB) (some d) H') :
    ∀ x dx, H x = none → H dx = none → dx ≠ x → spInitX K C CB [.ref x, .ref q] (upd (upd H dx (.own x)) x (.ins C dx [])) (fun v H2 => v = .non ∧ R x H2) E := by
  intro x dx nx ndx ne
  have s0 : Same H (upd (upd H dx (.own x)) x (.ins C dx [])) := (same_upd ndx).mut nx
  refine ⟨x, dx, q, l, rfl, upd_same, hq.same s0, hl, hb, fun hn H' t h1 h2 h3 => ⟨rfl, k hn x H' nx (fun b o e => ?_) ⟨dx, t, h1, h2⟩⟩, fun z hz d H' nd e h => kx z hz d H' (s0.free nd) (s0.trans e) h⟩
  exact h3 b o (ne_of_none e nx) (s0 b o e)
/-- where all are questions nothing is raised -/
theorem pupX_good {K : PySem.W.Frag} {C CB q : Addr} {H : Hp} {l : List Int} {R : Addr → Hp → Prop} {E : XK} (hq : SqA K H q (l.map V.int)) (hl : l.length ≤ 500) (hn : Qn l) (k : ∀ x H', H x = none → Same H H' → PupAt C H' x l → R x H') :
    ∀ x dx, H x = none → H dx = none → dx ≠ x → spInitX K C CB [.ref x, .ref q] (upd (upd H dx (.own x)) x (.ins C dx [])) (fun v H2 => v = .non ∧ R x H2) E :=
  pupX_make hq hl (fun z hz => by have := hn z hz; unfold Bd; have : z.natAbs < 48 := by omega
                                  exact Nat.lt_trans this (by decide +kernel)) (fun _ => k) fun z hz => by rw [first_none hn] at hz; cases hz
def spAddedX (C CB : Addr) : Sp := fun vs H Q E => ∃ (a : Addr) (p : List Int) (z : Int), vs = [.ref a, .int z] ∧ PupAt C H a p ∧ Bd z ∧
  ((0 ≤ z ∧ z < 48) → ∀ x H', H x = none → Same H H' → PupAt C H' x (p ++ [z]) → Q (.ref x) H') ∧
  (¬ (0 ≤ z ∧ z < 48) → ∀ d H', H d = none → Same H H' → H' d = some (.xd [("number", .int z)]) → E (.ref CB) (some d) H')
theorem Bd.small {z : Int} (h0 : -1000 ≤ z) (h1 : z < 1000) : Bd z := by
  unfold Bd
  have : z.natAbs < 1001 := by omega
  exact Nat.lt_trans this (by decide +kernel)
theorem kit_sub {K : PySem.W.Frag} {C B : Addr} (h : PySem.W.subIn K (.ref C) (.ref B) = some true) (h2 : PySem.W.isClsIn K B = true) (h3 : PySem.W.typeIn K (.ref B) = some (.type "type")) : PySem.W.kitOne K (.ref C) (.ref B) = some true := by
  unfold PySem.W.kitOne
  split
  · rfl
  · show (if ((PySem.W.clsIn K B).isSome && PySem.W.typeIn K (.ref B) == some (.type "type")) = true then PySem.W.subIn K (.ref C) (.ref B) else none) = some true
    rw [show (PySem.W.clsIn K B).isSome = true from h2, h3, h]
    rfl
end L2

namespace L2
open PySem PySem.Spec PyProof.Rows
/-! ## an object of an own class made by C(e, .., k=v) -/
section
variable {X : Cx} {CX : CXT} {k n : Nat} {f C : Addr} {fd : FuncData} {ps ks : List Str} {sp : Sp} {E : St → XK} {x : Str} {p pos : Pos} {e : Expr} {es : List Expr} {kws : List Keyword} {t tk : TA} {g : List Value → List Value → List Value} {gV : List V → List V → List V}
def tMakeN (C : Addr) (n m : Nat) (sp : Sp) (gV : List V → List V → List V) (E : St → XK) (t tk : TA) : TE := fun σ H Q => t σ H fun vs H1 => tk σ H1 fun zs H2 => vs.length + 1 = n ∧ zs.length = m ∧ ∀ x dx, H2 x = none → H2 dx = none → dx ≠ x →
  sp (gV (.ref x :: vs) zs) (upd (upd H2 dx (.own x)) x (.ins C dx [])) (fun v H3 => v = .non ∧ Q (.ref x) H3) (E σ)
theorem run_makeN {pins : List (Addr × Obj)} {σ : St} {H : Hp} {s : Shared} {Q : VK} {us ws : List Value} {vs zs : List V} (M : Mk X.K C f) (F : FnOk X.prog X.w X.K X.mg X.base CX k f fd ps sp) (hr : Room (k + 1) X.A) (hb : KBn X.K fd ps n ks g gV)
    (hx : PassesAt CX X σ (E σ)) (I : Inv X pins σ H s) (r : Vals vs us) (rz : Vals zs ws) (hn : vs.length + 1 = n) (hz : zs.length = ks.length)
    (h : ∀ x dx, H x = none → H dx = none → dx ≠ x → sp (gV (.ref x :: vs) zs) (upd (upd H dx (.own x)) x (.ins C dx [])) (fun v H2 => v = .non ∧ Q (.ref x) H2) (E σ)) : wpAny (model X.prog X.w) X.A (call (.ref C) us (ks.zip ws)) (EP X pins σ Q) X.xe s := by
  let n0 := s.heap.objs.size
  have want := h (n0 + 1) n0 (I.hok.fresh (Nat.le_succ n0)) (I.hok.fresh (Nat.le_refl n0)) (Nat.ne_of_lt (Nat.lt_succ_self n0))
  have J := Inv.made (C := C) I
  have rr : Vals (V.ref (n0 + 1) :: vs) (Value.ref (n0 + 1) :: us) := Paired.cons rfl r
  have bnd := hb.to _ (Value.ref (n0 + 1) :: us) ws J.kIn (by rw [← rr.length]; exact hn) (by rw [← rz.length]; exact hz)
  have body := F.run _ X.stack _ _ ⟨Value.ref (n0 + 1) :: us, ks.zip ws⟩ (g (Value.ref (n0 + 1) :: us) ws) _ _ (E σ) (hr.make C us (ks.zip ws)) (J.env0.make C us (ks.zip ws)) bnd (hb.rel rr rz) want
  refine wpAny_call (make_map (f := f) I.kIn M.makes M.init (beq_iff_eq.mp M.fn) (codeAny_mono body fun res s' hq => ?_))
  match res, hq with
  | .error er, hq => exact hx pins _ _ er s' J hq
  | .ok (.ret u), hq =>
    obtain ⟨v, H', I3, rv, ev, q3⟩ := J.after hq
    subst ev
    exact ⟨rv, V.ref (n0 + 1), H', I3, rfl, q3⟩
  | .ok .next, hq => exact hq.elim
  | .ok .brk, hq => exact hq.elim
  | .ok .cont, hq => exact hq.elim
theorem pe_makeN (M : Mk X.K C f) (F : FnOk X.prog X.w X.K X.mg X.base CX k f fd ps sp) (hr : Room (k + 1) X.A) (hg : Gl X x) (hm : X.mg x = some (.ref C)) (hb : KBn X.K fd ps n ks g gV) (hx : ∀ σ, PassesAt CX X σ (E σ))
    (ha : PA X (e :: es) t) (hk : PK X kws tk) (h1 : ((backToKw pos (keywordEach kws X.env)).all fun x => x.fst.isSome) = true := by rfl) (h2 : List.filterMap (fun x => x.fst) (backToKw pos (keywordEach kws X.env)) = ks := by rfl)
    (hdb : (x == ("__debug__" : Str)) = false := by decide) (he : starEach (e :: es) X.env = (false, eval e X.env) :: starEach es X.env := by rfl)
    (hpl : ((((backTo pos (starEach (e :: es) X.env)).any fun x => x.fst) || (backToKw pos (keywordEach kws X.env)).any fun x => x.fst.isNone) = false) := by rfl) :
    PE X (.Call (.Name x p) (e :: es) kws pos) (tMakeN C n ks.length sp gV E t tk) := by
  refine ⟨fun pins s σ H Q I h => wpAny_Call_Name_kw (ld_glob I hg hm ?_ hdb)⟩
  refine PySem.W.callWith_KW (h₀ := X.base) I.ok.mod.kin M.kp h1 (thn (ha.run pos pins s σ H _ I h) fun us s1 hh => ?_) hpl he
  obtain ⟨vs, H1, I1, r, hq⟩ := hh
  refine thn (hk.run pos pins s1 σ H1 _ I1 hq) fun ws s2 hh => ?_
  obtain ⟨zs, H2, I2, rz, hn, hz, q⟩ := hh
  refine ⟨I2.kIn, ?_⟩
  rw [h2]
  exact run_makeN M F hr hb (hx σ) I2 r rz hn hz q
end
end L2

namespace PySem
open PySem PySem.Spec PyProof.Rows L2
theorem wp_ite {α : Type} {M : Model} {A : Around} {E : Value → Shared → Prop} {s : Shared} {Q : α → Shared → Prop} {c : Bool} {t u : Sem α} (h1 : wpAny M A t Q E s) (h2 : wpAny M A u Q E s) : wpAny M A (if c = true then t else u) Q E s := by
  cases c
  · rw [if_neg (by decide)]; exact h2
  · rw [if_pos rfl]; exact h1
theorem enumT_new (l : Addr) (items : Array Value) :
  Meets (Builtin.«enumerate.__new__» ⟨[.type "enumerate", .ref l], []⟩) fun A R s =>
    s.heap.IsTuple l items ∧ R (.ok (.ret (.ref (s.heap.push { cls := .type "tuple_iterator", data := .fields #[.ref l, .int 0 0] }).objs.size)))
      { s with heap := (s.heap.push { cls := .type "tuple_iterator", data := .fields #[.ref l, .int 0 0] }).push { cls := .type "enumerate", data := .fields #[.none, .bool false, .ref s.heap.objs.size, rawInt 0, .none, .none] } } := by
  intro prog w A R s ⟨ht, hR⟩
  have rest : ∀ b : Bool, wpAny (model prog w) A.in1 (pyIter (.ref l) >>= fun it => Builtin.SmallTypes.newRecord (.type "enumerate") (Builtin.SmallTypes.ownedTupleFields ++ [it, rawInt 0, .none, .none]) >>= fun r => ret r)
      (fun fin s' => match fin with
        | Fin.done f => R (.ok f) s'
        | Fin.again c' => Code.quiet c' = true ∧ codeAny (model prog w) A c' R s') (fun e s' => R (.error e) s') s := fun _ => by
    refine wpAny_bind (wpAny_pyIter_tuple ht (wpAny_bind ?_))
    unfold Builtin.SmallTypes.newRecord newObj
    show wpAny _ _ (if _ then _ else _) _ _ _
    rw [if_neg (by show ¬ (6 > sizeLine + 2); decide)]
    unfold newObjAsIs
    refine wpAny_bind (wpAny_alloc (wpAny_pure ?_))
    exact wpAny_pure hR
  unfold Builtin.«enumerate.__new__» Builtin.SmallTypes.newClass
  refine wpAny_bind (wpAny_of_eq (a := (Value.type "enumerate", [Value.ref l])) ?_ ?_)
  · show (isSubtype (.type "enumerate") (.type "enumerate") >>= fun b => _) = _
    rw [sub_enumerate]
    rfl
  · show wpAny _ _ (if (Value.type "enumerate" == Value.type "enumerate") = true then _ else _) _ _ _
    rw [if_pos (beq_self_eq_true _)]
    unfold Builtin.SmallTypes.calledThroughType
    refine wpAny_bind (wpAny_bind (wpAny_stack fun st _ _ _ => wpAny_pure ?_))
    refine wp_ite ?_ ?_
    · refine wpAny_bind (wpAny_of_eq (a := (Value.ref l, none)) rfl ?_)
      exact rest true
    · refine wpAny_bind (wpAny_of_eq (a := (Value.ref l, none)) rfl ?_)
      exact rest true
theorem drawsOfTuple {prog : Program} {w : World} {A : Around} (hA : A.handled = none) (it l : Addr) (ne : l ≠ it) (items : Array Value) :
    PySem.Draws prog w A it [it, l] items.size (fun i v => items[i]? = some v) fun i h => h.IsTupleIter it l i ∧ h.IsTuple l items := by
  refine ⟨fun i h ⟨⟨o, ho, _⟩, _⟩ => ⟨o, ho⟩, fun i h h' ⟨a, b⟩ k => ⟨a.at (k it (by simp)), b.at (k l (by simp))⟩, fun i s Q E hi ⟨a, b⟩ k => ?_, fun s Q E ⟨a, b⟩ k => ?_⟩
  · refine RZ.nextOf_tuple_item a b (Array.getElem?_eq_getElem hi) fun h' a' sb => ?_
    exact k _ h' s.toks (Array.getElem?_eq_getElem hi) ⟨a', b.at fun o ho => by rw [sb.2 l ne]; exact ho⟩ sb
  · exact RZ.nextOf_tuple_end hA a b (by simp) fun h' e x y => k h' e x y
theorem call_enumT {prog : Program} {w : World} {A : Around} {E : Value → Shared → Prop} {s : Shared} {l : Addr} {items : Array Value} {Q : Value → Shared → Prop} (ht : s.heap.IsTuple l items)
    (h : ∀ h' : Heap, IsEnum h' (s.heap.objs.size + 1) s.heap.objs.size 0 .none → h'.IsTupleIter s.heap.objs.size l 0 → h'.objs.size = s.heap.objs.size + 2 → (∀ b o, s.heap.get? b = some o → h'.get? b = some o) → Q (.ref (s.heap.objs.size + 1)) { s with heap := h' }) :
    wpAny (model prog w) A (call (.type "enumerate") [.ref l]) Q E s := by
  have e1 : (s.heap.push { cls := .type "tuple_iterator", data := .fields #[.ref l, .int 0 0] }).objs.size = s.heap.objs.size + 1 := by rw [Heap.size_push]
  have keep : ∀ b o, s.heap.get? b = some o → ((s.heap.push { cls := .type "tuple_iterator", data := .fields #[.ref l, .int 0 0] }).push { cls := .type "enumerate", data := .fields #[.none, .bool false, .ref s.heap.objs.size, rawInt 0, .none, .none] }).get? b = some o := fun b o e => Heap.get?_push_of_some _ (Heap.get?_push_of_some _ e)
  have g1 : ((s.heap.push { cls := .type "tuple_iterator", data := .fields #[.ref l, .int 0 0] }).push { cls := .type "enumerate", data := .fields #[.none, .bool false, .ref s.heap.objs.size, rawInt 0, .none, .none] }).get? (s.heap.objs.size + 1) = some { cls := .type "enumerate", data := .fields #[.none, .bool false, .ref s.heap.objs.size, rawInt 0, .none, .none] } := by heap_get
  have g0 : ((s.heap.push { cls := .type "tuple_iterator", data := .fields #[.ref l, .int 0 0] }).push { cls := .type "enumerate", data := .fields #[.none, .bool false, .ref s.heap.objs.size, rawInt 0, .none, .none] }).get? s.heap.objs.size = some { cls := .type "tuple_iterator", data := .fields #[.ref l, .int 0 0] } := by heap_get
  refine callType_new F.called_enumerate (by decide) (F.typeCall_enumerate_1 _) (F.newCall_enumerate_1 _) ?_ F.entry_enumerate_new (enumT_new l items) ?_
  · intro obj
    exact F.args_object_init_1 obj
  · refine ⟨ht, ?_⟩
    show _ ∧ _
    refine ⟨?_, ?_⟩
    · rw [e1]
      exact ⟨_, g1, rfl⟩
    · rw [e1]
      exact h _ g1 ⟨_, g0, rfl, rfl⟩ (by rw [Heap.size_push, e1]) keep
end PySem
namespace L2
open PySem PySem.Spec PyProof.Rows
/-- enumerate over a tuple -/
def IteT (K : PySem.W.Frag) (a : Addr) : It :=
  ⟨fun i H => ∃ xs x, SqT K H a xs ∧ xs[i]? = some x, fun i H v H' => ∃ T x, v = .ref T ∧ H T = none ∧ H' = upd H T (.tup [.int (i : Nat), x]) ∧ ∀ xs, SqT K H a xs → xs[i]? = some x, fun i H => ∃ xs, SqT K H a xs ∧ xs.length = i⟩
def iEnumT (K : PySem.W.Frag) (ta : TA) : TI := fun σ H R => ta σ H fun vs H1 => ∃ a xs, vs = [.ref a] ∧ SqT K H1 a xs ∧ R (IteT K a) H1
theorem turn_enumT {P : Program} {w : World} {K : PySem.W.Frag} {elts : List Expr} {kk : Nat} {tpos : Pos} (a e it : Addr) :
    Turn P w K (.Tuple elts kk tpos) (IteT K a) [e, it] e fun i h => (∃ old, IsEnum h e it (i : Nat) old) ∧ h.IsTupleIter it a i ∧ e ≠ it := by
  refine ⟨by simp, fun i h ⟨⟨old, z⟩, ⟨o, ho, _, hd⟩, _⟩ b hb => ?_, fun i h h' ⟨⟨old, z⟩, y, ne⟩ k => ⟨⟨old, k e (by simp) _ z⟩, y.at (k it (by simp)), ne⟩, fun X hP hw hK hc i pins s σ H E I fp ⟨⟨old, z⟩, y, ne⟩ go => ?_, fun X hP hw hK hc i pins s σ H E I fp ⟨⟨old, z⟩, y, ne⟩ st => ?_, fun A i s Q E ⟨⟨old, z⟩, y, ne⟩ q => wpAny_pyIter_enum z q⟩
  · rcases List.mem_cons.mp hb with e1 | hb
    · subst e1
      exact ⟨_, z, fun v h => by cases h⟩
    · obtain rfl := List.mem_singleton.mp hb
      exact ⟨o, ho, fun v h => by rw [hd] at h; cases h⟩
  · subst hP hw hK
    obtain ⟨xs, x, hs, hx⟩ := go
    obtain ⟨its, hv, ht, hlen⟩ := I.tuple hs
    have hl := hv.length
    have hi : i < its.toArray.size := by
      have := (List.getElem?_eq_some_iff.mp hx).1
      rw [List.size_toArray]
      omega
    have ha : a ≠ it := fun q => by
      subst q
      obtain ⟨o, ho, hc, _⟩ := y
      obtain ⟨o', ho', hc', _⟩ := ht
      rw [ho] at ho'
      obtain rfl := Option.some.inj ho'
      rw [hc] at hc'
      exact absurd hc' (by decide)
    refine wpAny_pyNext_enum_itemD (drawsOfTuple (A := X.A.in1) (I.ok.hd hc) it a ha its.toArray) z ⟨y, ht⟩ hi ne (by
      intro q
      rcases List.mem_cons.mp q with q | q
      · exact ne q
      · have q := List.mem_singleton.mp q
        subst q
        obtain ⟨o', ho', hc', _⟩ := ht
        rw [z] at ho'
        obtain rfl := Option.some.inj ho'
        exact absurd hc' (by show ¬ (Value.type "enumerate" = Value.type "tuple"); decide)) fun x' h' tk hx' out st' tup sz kp => ?_
    obtain ⟨u, hu, ru⟩ : ∃ u, its[i]? = some u ∧ RelV x u := paired_get hv hx
    have ex : x' = u := by
      rw [List.getElem?_toArray, hu] at hx'
      exact (Option.some.inj hx').symm
    subst ex
    have hT : H s.heap.objs.size = none := I.hok.fresh (Nat.le_refl _)
    refine ⟨_, rfl, wpAny_letOwnedTupleGo_enum out fun h2 z2 sb => ?_⟩
    have eT : s.heap.objs.size ≠ e := fun q => Nat.lt_irrefl _ (q ▸ Heap.lt_size z)
    have tup2 : h2.get? s.heap.objs.size = some { cls := .type "tuple", data := .seq #[.int (i : Nat) tk, x'] } := by rw [sb.2 _ eT]; exact tup
    have y2 : h2.IsTupleIter it a (i + 1) := st'.1.at fun o ho => by rw [sb.2 it (Ne.symm ne)]; exact ho
    refine ⟨.ref s.heap.objs.size, upd H s.heap.objs.size (.tup [.int (i : Nat), x]), ?_, rfl, ⟨_, x, rfl, hT, rfl, fun ys hy => by rw [I.tuple_inj hy hs]; exact hx⟩, ⟨⟨x', z2⟩, y2, ne⟩, fun b hb => ?_⟩
    · refine Inv.turnedNew (s := s) (ch := [e, it]) I (fun b o nb hb => ?_) fp (Nat.le_refl _) ⟨by show 2 ≤ sizeLine; decide, [.int (i : Nat) tk, x'], .cons ⟨tk, rfl⟩ (.cons ru .nil), ⟨_, tup2, rfl, _, rfl⟩⟩
      have n1 : b ≠ e := fun q => nb (by rw [q]; simp)
      have n2 : b ≠ it := fun q => nb (by rw [q]; simp)
      rw [sb.2 b n1]
      exact kp b o n1 n2 hb
    · have nb : b ≠ s.heap.objs.size := by
        rcases List.mem_cons.mp hb with q | q
        · rw [q]; exact Ne.symm eT
        · rw [List.mem_singleton.mp q]
          obtain ⟨o, ho, _⟩ := y
          exact fun q => Nat.lt_irrefl _ (q ▸ Heap.lt_size ho)
      rw [upd_ne nb]
      exact (fp b hb).1
  · subst hP hw hK
    obtain ⟨xs, hs, hl⟩ := st
    obtain ⟨its, hv, ht, hlen⟩ := I.tuple hs
    have hl2 := hv.length
    have ha : a ≠ it := fun q => by
      subst q
      obtain ⟨o, ho, hc, _⟩ := y
      obtain ⟨o', ho', hc', _⟩ := ht
      rw [ho] at ho'
      obtain rfl := Option.some.inj ho'
      rw [hc] at hc'
      exact absurd hc' (by decide)
    have en : its.toArray.size = i := by rw [List.size_toArray]; omega
    refine wpAny_pyNext_enum_endD (drawsOfTuple (A := X.A.in1) (I.ok.hd hc) it a ha its.toArray) z (by rw [en]; exact ⟨y, ht⟩) fun h' eb => ⟨rfl, ?_⟩
    have f := fp it (by simp)
    exact I.turned (fun b o nb hb => eb b o nb hb) f.1 f.2.1 f.2.2.2.1 f.2.2.2.2.1 f.2.2.2.2.2
theorem pi_enumT {X : Cx} {e : Expr} {ta : TA} {p pos tpos : Pos} {elts : List Expr} {kk : Nat} (hg : Gl X "enumerate") (hm : X.mg "enumerate" = none) (ha : PA X [e] ta) (he : starEach [e] X.env = [(false, eval e X.env)] := by rfl) :
    PI X (.Tuple elts kk tpos) (.Call (.Name "enumerate" p) [e] [] pos) (iEnumT X.K ta) := by
  refine ⟨fun pins s σ H R I h => ?_⟩
  refine wpAny_Call_Name_kw (ld_blt I hg hm (u := .type "enumerate") (by decide +kernel) ?_ (by decide) (by decide))
  refine PyProof.Rows.callWith_type1 (thn (ha.run pos pins s σ H _ I h) fun us s1 hh => ?_) he rfl
  obtain ⟨vs, H1, I1, r, a, xs, ev, hs, hR⟩ := hh
  subst ev
  cases r with
  | cons ra rr =>
    cases rr
    cases ra
    obtain ⟨its, hv, ht, hlen⟩ := I1.tuple hs
    refine call_enumT ht fun h' z y sz keep => wpAny_pyIter_enum z ?_
    have n1 : s1.heap.objs.size + 1 ≠ s1.heap.objs.size := Nat.succ_ne_self _
    refine ⟨s1.heap.objs.size + 1, [s1.heap.objs.size + 1, s1.heap.objs.size], _, IteT X.K a, H1, rfl, I1.kept keep, turn_enumT a (s1.heap.objs.size + 1) s1.heap.objs.size, ⟨⟨_, z⟩, y, n1⟩, fun b hb => ?_, hR⟩
    have hle : s1.heap.objs.size ≤ b := by
      rcases List.mem_cons.mp hb with q | q
      · rw [q]; exact Nat.le_succ _
      · rw [List.mem_singleton.mp q]; exact Nat.le_refl _
    exact I1.fpOk hle (I1.hok.fresh hle)
/-- a loop over enumerate(a tuple) -/
theorem for_enumT {K : PySem.W.Frag} {a : Addr} {xs : List V} {g : TG} {tb : TS} {D : Ends} {σ : St} {H : Hp} (Pv : Nat → St → Hp → Prop) (h0 : Pv 0 σ H) (hs : ∀ i σ H, i ≤ xs.length → Pv i σ H → SqT K H a xs)
    (st : ∀ i x σ H T, xs[i]? = some x → Pv i σ H → H T = none → g (.ref T) σ (upd H T (.tup [.int (i : Nat), x])) fun σ2 H2 => tb { nx := Pv (i + 1), rt := D.rt, bk := D.nx, ct := Pv (i + 1) } σ2 H2)
    (e : ∀ σ H, Pv xs.length σ H → D.nx σ H) :
    ∃ W : Nat → Nat → St → Hp → Prop, (∃ m, W 0 m σ H) ∧ ∀ i m σ H, W i m σ H → (IteT K a).stop i H ∧ D.nx σ H ∨ (IteT K a).go i H ∧ ∃ N : St → Hp → Prop, (∀ σ' H', N σ' H' → ∃ m', m' < m ∧ W (i + 1) m' σ' H') ∧
      ∀ x H', (IteT K a).yld i H x H' → g x σ H' fun σ2 H2 => tb { nx := N, rt := D.rt, bk := D.nx, ct := N } σ2 H2 := by
  refine ⟨fun i m σ H => Pv i σ H ∧ i + m = xs.length, ⟨xs.length, h0, Nat.zero_add _⟩, fun i m σ H ⟨hp, hm⟩ => ?_⟩
  have hS := hs i σ H (by omega) hp
  by_cases hi : i < xs.length
  · refine .inr ⟨⟨xs, xs[i], hS, List.getElem?_eq_getElem hi⟩, Pv (i + 1), fun σ' H' hp' => ⟨m - 1, by omega, hp', by omega⟩, fun v H' ⟨T, x, ev, hT, eH, hx⟩ => ?_⟩
    subst ev
    subst eH
    exact st i x σ H T (hx xs hS) hp hT
  · obtain rfl : i = xs.length := by omega
    exact .inl ⟨⟨xs, hS, rfl⟩, e σ H hp⟩
end L2

namespace L2
open PySem PySem.Spec PyProof.Rows
theorem passAt0 {CX : CXT} {X : Cx} {E : XK} (h : Passes CX X E) (σ : St) : PassesAt CX X σ E := fun pins H s e s' I q => h pins σ H s e s' I q
theorem vals_app {vs zs : List V} {us ws : List Value} (h1 : Vals vs us) (h2 : Vals zs ws) : Vals (vs ++ zs) (us ++ ws) := by
  induction h1 with
  | nil => exact h2
  | cons r _ ih => exact .cons r ih
/-! ## webs -/
/-- a row: a question and two or three targets -/
def RowOk (i n : Nat) (e : Int) (row : List Int) : Prop := ∃ q r, row = q :: r ∧ (r.length = 2 ∨ r.length = 3) ∧ 0 ≤ q ∧ q < 48 ∧ ∀ t ∈ r, -e ≤ t ∧ t < n ∧ ¬ (0 ≤ t ∧ t ≤ i)
/-- nothing is asked again behind a node: A i holds the questions that may be asked from node i on -/
def Cert (rows : List (List Int)) : Prop := ∃ A : Nat → Int → Prop, ∀ i q r, rows[i]? = some (q :: r) → A i q ∧ ∀ t ∈ r, 0 ≤ t → ¬ A t.toNat q ∧ ∀ z, A t.toNat z → A i z
structure GoodW (rows : List (List Int)) (e o : Int) : Prop where
  e1 : 1 ≤ e
  e2 : e ≤ 60
  len : rows.length ≤ 400
  row : ∀ i row, rows[i]? = some row → RowOk i rows.length e row
  o1 : -e ≤ o
  o2 : o < rows.length
  cert : Cert rows
/-- the rows stand as tuples at as -/
def RowsAt (H : Hp) (as : List Addr) (rows : List (List Int)) : Prop := as.length = rows.length ∧ ∀ (i : Nat) a row, as[i]? = some a → rows[i]? = some row → H a = some (.tup (row.map V.int))
theorem RowsAt.same {H H' : Hp} {as : List Addr} {rows : List (List Int)} (e : Same H H') (h : RowsAt H as rows) : RowsAt H' as rows := ⟨h.1, fun i a row x y => e _ _ (h.2 i a row x y)⟩
theorem RowsAt.gd {H H' : Hp} {as : List Addr} {rows : List (List Int)} (e : Gd H H') (h : RowsAt H as rows) : RowsAt H' as rows := ⟨h.1, fun i a row x y => e.1 _ _ (np_tup _) (h.2 i a row x y)⟩
def WebAt (C : Addr) (H : Hp) (x : Addr) (rows : List (List Int)) (e o : Int) : Prop := ∃ dx nt as, H x = some (.ins C dx [("nodes", .ref nt), ("ends", .int e), ("start", .int o)]) ∧ H nt = some (.tup (as.map V.ref)) ∧ RowsAt H as rows
theorem WebAt.same {C : Addr} {H H' : Hp} {x : Addr} {rows : List (List Int)} {e o : Int} (s : Same H H') (h : WebAt C H x rows e o) : WebAt C H' x rows e o := by
  obtain ⟨dx, nt, as, h1, h2, h3⟩ := h
  exact ⟨dx, nt, as, s _ _ h1, s _ _ h2, h3.same s⟩
theorem WebAt.gd {C : Addr} {H H' : Hp} {x : Addr} {rows : List (List Int)} {e o : Int} (s : Gd H H') (h : WebAt C H x rows e o) : WebAt C H' x rows e o := by
  obtain ⟨dx, nt, as, h1, h2, h3⟩ := h
  exact ⟨dx, nt, as, s.1 _ _ (np_ins _ _ _) h1, s.1 _ _ (np_tup _) h2, h3.gd s⟩
/-- the row at a place -/
theorem rows_get {H : Hp} {as : List Addr} {rows : List (List Int)} (h : RowsAt H as rows) {i : Nat} (hi : i < rows.length) : ∃ a row, as[i]? = some a ∧ rows[i]? = some row ∧ H a = some (.tup (row.map V.int)) := by
  have hi2 : i < as.length := by rw [h.1]; exact hi
  exact ⟨as[i], rows[i], List.getElem?_eq_getElem hi2, List.getElem?_eq_getElem hi, h.2 i _ _ (List.getElem?_eq_getElem hi2) (List.getElem?_eq_getElem hi)⟩
/-! masks -/
def natV (m : Nat) : V := .int (m : Int)
theorem and_bit {b q : Nat} (h : b.testBit q = false) : Builtin.bitAnd (b : Int) ((2 ^ q : Nat) : Int) = 0 := by
  rw [PyProof.Rows.bitAnd_pp (Int.natCast_nonneg _) (Int.natCast_nonneg _), Int.toNat_natCast, Int.toNat_natCast]
  have : b &&& 2 ^ q = 0 := Nat.eq_of_testBit_eq fun i => by
    rw [Nat.testBit_and, Nat.testBit_two_pow, Nat.zero_testBit]
    by_cases e : q = i
    · subst e; rw [h]; rfl
    · rw [decide_eq_false e, Bool.and_false]
  rw [this]
  rfl
theorem or_nat (b m : Nat) : Builtin.bitOr (b : Int) (m : Int) = ((b ||| m : Nat) : Int) := by
  rw [Bits.bitOr_pp (Int.natCast_nonneg _) (Int.natCast_nonneg _), Int.toNat_natCast, Int.toNat_natCast]
theorem get_natV {l : List Nat} {i m : Nat} (h : l[i]? = some m) : (l.map natV)[i]? = some (.int (m : Int)) := by
  rw [List.getElem?_map, h]
  rfl
def MaskOk (A : Nat → Int → Prop) (j m : Nat) : Prop := ∀ z : Nat, m.testBit z = true → A j (z : Int)
def spTwice : Sp := fun vs H Q _ => ∃ (nt : Addr) (as : List Addr) (rows : List (List Int)) (e : Int), vs = [.ref nt] ∧ H nt = some (.tup (as.map V.ref)) ∧ RowsAt H as rows ∧ rows.length ≤ 400 ∧ (∀ i row, rows[i]? = some row → RowOk i rows.length e row) ∧ Cert rows ∧ ∀ H', Same H H' → Q .non H'
def spIn (C : Addr) : Sp := fun vs H Q _ => ∃ (x : Addr) (dx : Addr) (fs : List (Str × V)) (nt : Addr) (xs : List V) (e z : Int), vs = [.ref x, .int z] ∧ H x = some (.ins C dx fs) ∧ fs.lookup ("ends" : Str) = some (.int e) ∧ fs.lookup ("nodes" : Str) = some (.ref nt) ∧ H nt = some (.tup xs) ∧ Q (.bl (decide (-e ≤ z ∧ z < (xs.length : Nat)))) H
def spStand (C : Addr) : Sp := fun vs H Q _ => ∃ (x dx nt nd : Addr) (fs : List (Str × V)) (xs : List V) (e : Int) (k : Nat) (row : List Int), vs = [.ref x, .int k, .ref nd] ∧ H x = some (.ins C dx fs) ∧ fs.lookup ("ends" : Str) = some (.int e) ∧ fs.lookup ("nodes" : Str) = some (.ref nt) ∧ H nt = some (.tup xs) ∧ H nd = some (.tup (row.map V.int)) ∧ RowOk k xs.length e row ∧ ∀ H', Same H H' → Q (.bl true) H'
def spLenW (C : Addr) : Sp := fun vs H Q _ => ∃ (x dx nt : Addr) (fs : List (Str × V)) (xs : List V), vs = [.ref x] ∧ H x = some (.ins C dx fs) ∧ fs.lookup ("nodes" : Str) = some (.ref nt) ∧ H nt = some (.tup xs) ∧ Q (.int (xs.length : Nat)) H
def spFirst (C : Addr) : Sp := fun vs H Q _ => ∃ (x dx nt : Addr) (fs : List (Str × V)) (xs : List V), vs = [.ref x] ∧ H x = some (.ins C dx fs) ∧ fs.lookup ("nodes" : Str) = some (.ref nt) ∧ H nt = some (.tup xs) ∧ Q (.int (if xs.isEmpty then -1 else 0)) H
theorem at_tup {l : List V} {j : Nat} {v : V} (h : l[j]? = some v) : atI l (j : Int) = some v := atI_nat h
theorem cut_row (q : Int) (r : List Int) : cutV ((q :: r).map V.int) (some 1) none = r.map V.int := by
  unfold cutV HT.sIx
  simp only [List.length_map, List.length_cons]
  rw [if_neg (by decide)]
  show List.take (r.length + 1 - min 1 (r.length + 1)) (List.drop (min 1 (r.length + 1)) (V.int q :: r.map V.int)) = _
  rw [Nat.min_eq_left (Nat.succ_le_succ (Nat.zero_le _))]
  show List.take (r.length + 1 - 1) (r.map V.int) = _
  exact List.take_of_length_le (by rw [List.length_map]; omega)
/-- node[1:] of a row -/
theorem rest_row {K : PySem.W.Frag} {H : Hp} {a : Addr} {q : Int} {r : List Int} {Q : VK} (h : H a = some (.tup ((q :: r).map V.int))) (k : ∀ p, H p = none → Q (.ref p) (upd H p (.tup (r.map V.int)))) : rSlA K (.ref a) (some 1) none H Q := by
  refine ⟨a, _, rfl, tup_of h, fun e => ?_, fun _ p np => ?_⟩
  · exfalso
    have e := e.1
    unfold HT.sIx at e
    dsimp only at e
    rw [if_neg (by decide), List.map_cons, List.length_cons] at e
    have : min (1 : Int).toNat ((r.map V.int).length + 1) = 1 := Nat.min_eq_left (Nat.succ_le_succ (Nat.zero_le _))
    rw [this] at e
    exact absurd e (by decide)
  · have ec : cutV ((q :: r).map V.int) (some 1) none = r.map V.int := by
      rw [cut_row]
    rw [ec]
    exact k p np
/-- a row as it is passed: a tuple or a list -/
def RowIn (H : Hp) (a : Addr) (row : List Int) : Prop := H a = some (.tup (row.map V.int)) ∨ H a = some (.lst (row.map V.int))
theorem RowIn.same {H H' : Hp} {a : Addr} {row : List Int} (e : Same H H') (h : RowIn H a row) : RowIn H' a row := h.elim (fun h => .inl (e _ _ h)) fun h => .inr (e _ _ h)
def StartV (rows : List (List Int)) (o : Int) (v : V) : Prop := v = .int o ∨ (v = .non ∧ o = if rows.isEmpty then -1 else 0)
def spWebInit (K : PySem.W.Frag) (C : Addr) : Sp := fun vs H Q _ => ∃ (x dx q : Addr) (as : List Addr) (rows : List (List Int)) (e o : Int) (v : V), vs = [.ref x, .ref q, .int e, v] ∧ H x = some (.ins C dx []) ∧ SqL K H q (as.map V.ref) ∧ as.length = rows.length ∧
  (∀ (i : Nat) a row, as[i]? = some a → rows[i]? = some row → RowIn H a row) ∧ GoodW rows e o ∧ StartV rows o v ∧
  ∀ H', WebAt C H' x rows e o → (∀ b u, b ≠ x → H b = some u → H' b = some u) → Q .non H'
theorem put1 {v : V} : putF ("nodes" : Str) v [] = [(("nodes" : Str), v)] := by rfl
theorem put2 {u v : V} : putF ("ends" : Str) v [(("nodes" : Str), u)] = [(("nodes" : Str), u), (("ends" : Str), v)] := by rfl
theorem put3 {u v z : V} : putF ("start" : Str) v [(("nodes" : Str), u), (("ends" : Str), z)] = [(("nodes" : Str), u), (("ends" : Str), z), (("start" : Str), v)] := by rfl
/-! ## drawn webs -/
def spNames (K : PySem.W.Frag) : Sp := fun vs H Q _ => ∃ (p : Addr) (c : Nat) (m : Int), vs = [.ref p, .int m] ∧ PoolOk K p c H ∧ c + 100 < LIM ∧ 0 < m ∧ m ≤ 48 ∧
  ∀ H' D l, H D = none → Gd H H' → PoolOk K p (c + 100) H' → H' D = some (.lst (l.map V.int)) → Qn l → l ≠ [] → (l.length : Int) ≤ m → l.Nodup → Q (.ref D) H'
def TgtOk (e cnt idx t : Int) : Prop := -e ≤ t ∧ t < cnt ∧ ¬ (0 ≤ t ∧ t ≤ idx)
def spTarget (K : PySem.W.Frag) : Sp := fun vs H Q _ => ∃ (p : Addr) (c : Nat) (idx cnt e : Int), vs = [.ref p, .int idx, .int cnt, .int e] ∧ PoolOk K p c H ∧ c + 10 < LIM ∧ 0 ≤ idx ∧ idx < cnt ∧ cnt ≤ 400 ∧ 1 ≤ e ∧ e ≤ 60 ∧
  ∀ H' t, Gd H H' → PoolOk K p (c + 3) H' → TgtOk e cnt idx t → Q (.int t) H'
/-- one drawn node: its question is in its own list b, in none of the lists of its targets, and b holds these -/
def NdOk (e : Int) (N g : Nat) (nms row b : List Int) (bels : List (List Int)) : Prop := ∃ q r, row = q :: r ∧ (r.length = 2 ∨ r.length = 3) ∧ q ∈ nms ∧ q ∈ b ∧ ∀ t ∈ r, TgtOk e N g t ∧ (0 ≤ t → ∃ b', bels[(t - g - 1).toNat]? = some b' ∧ q ∉ b' ∧ ∀ z ∈ b', z ∈ b)
def GoodS (e : Int) (N : Nat) (nms : List Int) : List (List Int) → List (List Int) → Prop
  | [], [] => True
  | row :: rows, b :: bels => GoodS e N nms rows bels ∧ NdOk e N (N - (rows.length + 1)) nms row b bels
  | [], _ :: _ => False
  | _ :: _, [] => False
theorem GoodS.len {e : Int} {N : Nat} {nms : List Int} : ∀ {rows bels : List (List Int)}, GoodS e N nms rows bels → bels.length = rows.length
  | [], [], _ => rfl
  | _ :: _, _ :: _, h => by rw [List.length_cons, List.length_cons, GoodS.len h.1]
  | [], _ :: _, h => h.elim
  | _ :: _, [], h => h.elim
/-- by places: base is what stands before these rows -/
theorem GoodS.at {e : Int} {N : Nat} {nms : List Int} : ∀ {rows bels : List (List Int)} {base : Nat}, GoodS e N nms rows bels → base + rows.length = N → ∀ (j : Nat) row, rows[j]? = some row →
    ∃ q r b, row = q :: r ∧ (r.length = 2 ∨ r.length = 3) ∧ q ∈ nms ∧ bels[j]? = some b ∧ q ∈ b ∧ ∀ t ∈ r, TgtOk e N (base + j : Nat) t ∧ (0 ≤ t → ∃ b', bels[t.toNat - base]? = some b' ∧ q ∉ b' ∧ ∀ z ∈ b', z ∈ b)
  | [], [], _, _, _, j, row, hj => by simp at hj
  | [], _ :: _, _, h, _, _, _, _ => h.elim
  | _ :: _, [], _, h, _, _, _, _ => h.elim
  | row0 :: rows, b0 :: bels, base, h, hb, j, row, hj => by
    rw [List.length_cons] at hb
    cases j with
    | zero =>
      obtain rfl : row0 = row := Option.some.inj hj
      obtain ⟨q, r, e1, hl, hq, hqb, ht⟩ := h.2
      have eg : N - (rows.length + 1) = base := by omega
      rw [eg] at ht
      refine ⟨q, r, b0, e1, hl, hq, rfl, hqb, fun t m => ?_⟩
      obtain ⟨h1, h2⟩ := ht t m
      refine ⟨by simpa using h1, fun t0 => ?_⟩
      obtain ⟨b', hb', h3⟩ := h2 t0
      have := h1.2.2
      have hlt : (base : Int) < t := by
        refine Int.not_le.mp fun hle => this ⟨t0, hle⟩
      refine ⟨b', ?_, h3⟩
      have : t.toNat - base = (t - base - 1).toNat + 1 := by omega
      rw [this, List.getElem?_cons_succ]
      exact hb'
    | succ j =>
      obtain ⟨q, r, b, e1, hl, hq, hbj, hqb, ht⟩ := GoodS.at (base := base + 1) h.1 (by omega) j row hj
      refine ⟨q, r, b, e1, hl, hq, hbj, hqb, fun t m => ?_⟩
      obtain ⟨h1, h2⟩ := ht t m
      refine ⟨by rw [show base + (j + 1) = base + 1 + j by omega]; exact h1, fun t0 => ?_⟩
      obtain ⟨b', hb', h3⟩ := h2 t0
      have := h1.2.2
      have hlt : ((base + 1 + j : Nat) : Int) < t := by
        refine Int.not_le.mp fun hle => this ⟨t0, hle⟩
      refine ⟨b', ?_, h3⟩
      have : t.toNat - base = (t.toNat - (base + 1)) + 1 := by omega
      rw [this, List.getElem?_cons_succ]
      exact hb'
theorem GoodS.good {e o : Int} {nms : List Int} {rows bels : List (List Int)} (h : GoodS e rows.length nms rows bels) (hn : Qn nms) (e1 : 1 ≤ e) (e2 : e ≤ 60) (hl : rows.length ≤ 400) (o1 : -e ≤ o) (o2 : o < rows.length) : GoodW rows e o := by
  refine ⟨e1, e2, hl, fun i row hi => ?_, o1, o2, fun g z => ∃ b, bels[g]? = some b ∧ z ∈ b, fun i q r hi => ?_⟩
  · obtain ⟨q, r, b, er, hr, hq, _, _, ht⟩ := h.at (base := 0) (Nat.zero_add _) i row hi
    refine ⟨q, r, er, hr, (hn q hq).1, (hn q hq).2, fun t m => ?_⟩
    have := (ht t m).1
    rw [Nat.zero_add] at this
    exact this
  · obtain ⟨q', r', b, er, hr, hq, hb, hqb, ht⟩ := h.at (base := 0) (Nat.zero_add _) i _ hi
    obtain ⟨rfl, rfl⟩ := List.cons.inj er
    refine ⟨⟨b, hb, hqb⟩, fun t m t0 => ?_⟩
    obtain ⟨b', hb', h1, h2⟩ := (ht t m).2 t0
    rw [Nat.sub_zero] at hb'
    refine ⟨fun ⟨b2, hb2, hz⟩ => ?_, fun z ⟨b2, hb2, hz⟩ => ?_⟩
    · rw [hb'] at hb2
      obtain rfl := Option.some.inj hb2
      exact h1 hz
    · rw [hb'] at hb2
      obtain rfl := Option.some.inj hb2
      exact ⟨b, hb, h2 z hz⟩
def spNodes (K : PySem.W.Frag) : Sp := fun vs H Q _ => ∃ (p nm : Addr) (c N : Nat) (e : Int) (sk : Bool) (nms : List Int), vs = [.ref p, .int (N : Int), .int e, .ref nm, .bl sk] ∧ PoolOk K p c H ∧ c + 1000 < LIM ∧ N ≤ 13 ∧ 1 ≤ e ∧ e ≤ 60 ∧
  H nm = some (.lst (nms.map V.int)) ∧ nms ≠ [] ∧ nms.length ≤ 48 ∧
  ∀ H' D as rows bels, H D = none → Gd H H' → PoolOk K p (c + 1000) H' → H' D = some (.lst (as.map V.ref)) → RowsAt H' as rows → rows.length = N → GoodS e N nms rows bels → Q (.ref D) H'
theorem Gd.but {H0 H H' : Hp} {D : Addr} (g : Gd H0 H) (n : H0 D = none) (k : ∀ b o, b ≠ D → H b = some o → H' b = some o) : Gd H0 H' :=
  ⟨fun b o np h => k b o (ne_of_none h n) (g.1 b o np h), fun b o pl h => let ⟨o', p', h'⟩ := g.2 b o pl h; ⟨o', p', k b o' (ne_of_none h n) h'⟩⟩
theorem PoolOk.but {K : PySem.W.Frag} {p D : Addr} {c : Nat} {H H' : Hp} {ys : List V} (h : PoolOk K p c H) (hD : H D = some (.lst ys)) (n : ¬ isPool (.lst ys)) (k : ∀ b o, b ≠ D → H b = some o → H' b = some o) : PoolOk K p c H' := by
  obtain ⟨sa, ns, c', i, b, s, h1, h2, h3⟩ := h
  refine ⟨sa, ns, c', i, b, s, ?_, k _ _ (fun e => ?_) h2, h3⟩
  · rcases h1 with ⟨o, h1⟩ | h1
    · exact .inl ⟨o, k _ _ (ne_of h1 hD (by intro z; cases z)) h1⟩
    · exact .inr h1
  · subst e
    rw [h2] at hD
    injection hD with hD
    exact n ⟨sa, c', i, b, s, hD.symm⟩
theorem at_int {l : List Int} {r : Int} (h0 : 0 ≤ r) (h1 : r < (l.length : Int)) : ∃ z, z ∈ l ∧ atI (l.map V.int) r = some (.int z) := by
  obtain ⟨j, rfl⟩ : ∃ j : Nat, r = (j : Int) := ⟨r.toNat, by omega⟩
  have hj : j < l.length := by omega
  exact ⟨l[j], List.getElem_mem hj, atI_nat (by rw [List.getElem?_map, List.getElem?_eq_getElem hj]; rfl)⟩
/-! ## web[i] in a try body -/
section
variable {X : Cx} {CX : CXT} {n : Nat} {f C : Addr} {fd : FuncData} {ps : List Str} {sp : Sp} {pins : List (Addr × Obj)} {σ : St} {H : Hp} {s : Shared}
theorem run_ownS {E : XK} {A : Around} {vs : List V} {us : List Value} {Q : VK} (F : FnOk X.prog X.w X.K X.mg X.base CX n f fd ps sp) (sb : Sub X n A) (hb : Binds X.K fd ps []) (hx : PassesAt CX X σ E)
    (I : Inv X pins σ H s) (r : Vals vs us) (h : sp vs H Q E) : wpAny (model X.prog X.w) A (call (.ref f) us) (EP X pins σ Q) X.xe s := by
  have e0 : Env0 X.prog X.w X.K X.mg X.base A X.stack s H := by
    have e := I.env0
    exact ⟨by rw [sb.fr]; exact e.frames, e.mod, e.bs, e.bsz, e.funs, e.frf, e.hok, e.bare⟩
  have hl := F.len _ _ _ _ h
  have hl2 : us.length = ps.length := by rw [← hl, r.length]
  refine wpAny_call (codeAny_mono (F.run A X.stack s H ⟨us, []⟩ us vs Q E sb.room e0 (by
    have := hb s us I.kIn (by simpa using hl2)
    simpa using this) r h) fun r' s' hq => ?_)
  cases r' with
  | error e => exact hx pins H s e s' I hq
  | ok fl =>
    cases fl with
    | ret w => exact I.after hq
    | next => exact False.elim hq
    | brk => exact False.elim hq
    | cont => exact False.elim hq
def tOwnIxS (C : Addr) (sp : Sp) (E : St → XK) (ta tb : TE) : TE := fun σ H Q => ta σ H fun x H1 => tb σ H1 fun y H2 => rOwnIx C sp (E σ) x y H2 Q
theorem pe_ownIxS {E : St → XK} {a b : Expr} {ta tb : TE} {pos : Pos} (F : FnOk X.prog X.w X.K X.mg X.base CX n f fd ps sp) (hr : Room (n + 1) X.A) (hs : PySem.W.findIn X.K (.ref C) "__getitem__" = some (some (.ref f))) (hfn : PySem.W.fnIn X.K f = true) (hf : PySem.W.isFn X.K (.ref f) = true)
    (hb : Binds X.K fd ps []) (hx : ∀ σ, PassesAt CX X σ (E σ)) (ha : PE X a ta) (hb' : PE X b tb)
    (hsl : ∀ x i, subscripted b true (.ref x) i = runValue (.builtin "lifetime.subscript" ⟨[.ref x, i], []⟩) := by intro _ _; with_unfolding_all rfl) : PE X (.Subscript a b pos) (tOwnIxS C sp E ta tb) := by
  refine ⟨fun pins s σ H Q I h => ?_⟩
  refine Subscript_ (binT ha hb' I h fun v u s2 x y H2 I2 rx ry q => ?_)
  obtain ⟨c, dx, fs, rfl, hc, q⟩ := q
  cases rx
  obtain ⟨mB, J', _⟩ := ins_get I2.hok hc
  obtain ⟨od', J', _⟩ := J'.look
  obtain ⟨m, hF⟩ := I2.fr
  have sb : Sub X (n + 1) X.A := ⟨hr, rfl⟩
  exact PySem.W.sub_K hF I2.ok.mod.kin J' hs hfn hf (run_ownS (vs := [.ref c, y]) F sb.in1 hb (hx σ) I2 (.cons rfl (.cons ry .nil)) q) (hsl _ _)
end
/-- web[at] -/
def spItem (C CN : Addr) : Sp := fun vs H Q E => ∃ (x : Addr) (rows : List (List Int)) (e o z : Int), vs = [.ref x, .int z] ∧ WebAt C H x rows e o ∧ Bd z ∧
  ((0 ≤ z ∧ z < rows.length) → ∀ t row, rows[z.toNat]? = some row → H t = some (.tup (row.map V.int)) → Q (.ref t) H) ∧
  (¬ (0 ≤ z ∧ z < rows.length) → ∀ d H', H d = none → Same H H' → H' d = some (.xd [("index", .int z)]) → E (.ref CN) (some d) H')
/-! equality of tuples of tuples -/
def rowD (r : List Int) : PyData := .tuple (r.map PyData.int)
theorem dpAll_rows {K : PySem.W.Frag} {H : Hp} : ∀ {as : List Addr} {rows : List (List Int)}, RowsAt H as rows → DpAll K H (as.map V.ref) (rows.map rowD)
  | [], [], _ => .nil
  | [], _ :: _, h => by cases h.1
  | _ :: _, [], h => by cases h.1
  | a :: as, r :: rows, h => .cons (.tup (tup_of (h.2 0 a r rfl rfl)) (dpAll_ints r)) (dpAll_rows ⟨by have := h.1; simpa using this, fun j b row h1 h2 => h.2 (j + 1) b row h1 h2⟩)
theorem canLay_rows : ∀ rows : List (List Int), PyData.canLayAll0 (rows.map rowD) = true
  | [] => by rw [List.map_nil, PyData.canLayAll0]
  | n :: r => by
    rw [List.map_cons, PyData.canLayAll0, canLay_rows r]
    simp [rowD, PyData.canLay0, canLay_ints]
theorem depth_rows : ∀ rows : List (List Int), PyData.depthAll (rows.map rowD) ≤ 1
  | [] => by rw [List.map_nil, PyData.depthAll]; decide
  | n :: r => by
    have := depth_rows r
    rw [List.map_cons, PyData.depthAll]
    simp [rowD, PyData.depth, depth_ints]
    omega
theorem shR (rows : List (List Int)) : SeqAt.shaped (.tuple (rows.map rowD)) = true := by
  have := depth_rows rows
  simp [SeqAt.shaped, PyData.canLay0, canLay_rows, PyData.depth]
  omega
theorem ev_rows : ∀ rows rows2 : List (List Int), PyData.eqvAll (rows.map rowD) (rows2.map rowD) = decide (rows = rows2)
  | [], [] => by rw [List.map_nil, PyData.eqvAll]; rfl
  | [], _ :: _ => by rw [List.map_nil, List.map_cons, PyData.eqvAll]; rfl
  | _ :: _, [] => by rw [List.map_nil, List.map_cons, PyData.eqvAll]; rfl
  | a :: r, b :: s => by
    rw [List.map_cons, List.map_cons, PyData.eqvAll, ev_rows r s]
    unfold rowD
    rw [evT, Bool.eq_iff_iff, Bool.and_eq_true, decide_eq_true_eq, decide_eq_true_eq, decide_eq_true_eq, List.cons.injEq]
theorem eqD_rows {K : PySem.W.Frag} {H : Hp} {a b : Addr} {as bs : List Addr} {rows rows2 : List (List Int)} {Q : VK} (h1 : H a = some (.tup (as.map V.ref))) (h2 : H b = some (.tup (bs.map V.ref))) (r1 : RowsAt H as rows) (r2 : RowsAt H bs rows2) (q : Q (.bl (decide (rows = rows2))) H) : rEqD K (.ref a) (.ref b) H Q :=
  ⟨_, _, .tup (tup_of h1) (dpAll_rows r1), .tup (tup_of h2) (dpAll_rows r2), shR rows, shR rows2, by rw [PyData.eqv, ev_rows]; exact q⟩
theorem neD_rows {K : PySem.W.Frag} {H : Hp} {a b : Addr} {as bs : List Addr} {rows rows2 : List (List Int)} {Q : VK} (h1 : H a = some (.tup (as.map V.ref))) (h2 : H b = some (.tup (bs.map V.ref))) (r1 : RowsAt H as rows) (r2 : RowsAt H bs rows2) (q : Q (.bl (!decide (rows = rows2))) H) : rNeD K (.ref a) (.ref b) H Q :=
  ⟨_, _, .tup (tup_of h1) (dpAll_rows r1), .tup (tup_of h2) (dpAll_rows r2), shR rows, shR rows2, by rw [PyData.eqv, ev_rows]; exact q⟩
/-- web == other -/
def spEqW (C : Addr) : Sp := fun vs H Q _ => ∃ (x y : Addr) (rows rows2 : List (List Int)) (e o e2 o2 : Int), vs = [.ref x, .ref y] ∧ WebAt C H x rows e o ∧ WebAt C H y rows2 e2 o2 ∧ Q (.bl (decide (rows = rows2 ∧ e = e2 ∧ o = o2))) H
theorem neD_bad {K : PySem.W.Frag} {H : Hp} {x y : Addr} {s : Str} {z : Int} {Q : VK} (h1 : SqT K H x [.str s, .int z]) (h2 : SqT K H y [.str s, .int z]) (q : Q (.bl false) H) (hs : PyData.strOk s = true := by decide +kernel) : rNeD K (.ref x) (.ref y) H Q := by
  refine ⟨_, _, .tup h1 (.cons (.str s) (.cons (.int z) .nil)), .tup h2 (.cons (.str s) (.cons (.int z) .nil)), ?_, ?_, ?_⟩
  · simp [SeqAt.shaped, PyData.canLay0, PyData.canLayAll0, PyData.depth, PyData.depthAll, hs]
  · simp [SeqAt.shaped, PyData.canLay0, PyData.canLayAll0, PyData.depth, PyData.depthAll, hs]
  · rw [show PyData.eqv (.tuple [.str s, .int z]) (.tuple [.str s, .int z]) = true by simp [PyData.eqv, PyData.eqvAll]]
    exact q
def spSameW (C : Addr) : Sp := fun vs H Q _ => ∃ (x q : Addr) (as : List Addr) (rows : List (List Int)) (e o : Int), vs = [.ref x, .ref q, .int e, .int o] ∧ WebAt C H x rows e o ∧ H q = some (.lst (as.map V.ref)) ∧ RowsAt H as rows ∧ rows.length ≤ 400 ∧ 1 ≤ e ∧ e ≤ 60 ∧ ∀ H', Same H H' → Q (.bl true) H'
end L2

namespace L2
open PySem PySem.Spec PyProof.Rows
/-! ## webs with one row changed -/
theorem GoodW.more {rows : List (List Int)} {e o : Int} (h : GoodW rows e o) (he : e < 60) : GoodW rows (e + 1) o := by
  refine ⟨by have := h.e1; omega, by omega, h.len, fun i row hi => ?_, by have := h.o1; omega, h.o2, h.cert⟩
  obtain ⟨q, r, e1, h1, h2, h3, h4⟩ := h.row i row hi
  exact ⟨q, r, e1, h1, h2, h3, fun t m => by obtain ⟨x, y, z⟩ := h4 t m; exact ⟨by omega, y, z⟩⟩
theorem GoodW.from {rows : List (List Int)} {e o : Int} {o' : Int} (h : GoodW rows e o) (h1 : -e ≤ o') (h2 : o' < rows.length) : GoodW rows e o' := ⟨h.e1, h.e2, h.len, h.row, h1, h2, h.cert⟩
theorem GoodW.put {rows : List (List Int)} {e o : Int} {k : Nat} {q q' : Int} {r r' : List Int} (h : GoodW rows e o) (hk : rows[k]? = some (q :: r)) (hl : r'.length = 2 ∨ r'.length = 3) (q0 : 0 ≤ q') (q1 : q' < 48)
    (hq : q' = q ∨ ∀ (i : Nat) (z : Int) (s : List Int), rows[i]? = some (z :: s) → z ≠ q') (hr : ∀ t ∈ r', (0 ≤ t → t ∈ r) ∧ -e ≤ t) : GoodW (rows.set k (q' :: r')) e o := by
  obtain ⟨A, hA⟩ := h.cert
  have hkl : k < rows.length := (List.getElem?_eq_some_iff.mp hk).1
  have tok : ∀ t ∈ r', -e ≤ t ∧ t < (rows.length : Int) ∧ ¬ (0 ≤ t ∧ t ≤ k) := fun t m => by
    obtain ⟨h1, h2⟩ := hr t m
    by_cases t0 : 0 ≤ t
    · obtain ⟨q2, r2, e2, _, _, _, h3⟩ := h.row k _ hk
      obtain ⟨rfl, rfl⟩ := List.cons.inj e2
      exact h3 t (h1 t0)
    · exact ⟨h2, by omega, by omega⟩
  refine ⟨h.e1, h.e2, by rw [List.length_set]; exact h.len, fun i row hi => ?_, h.o1, by rw [List.length_set]; exact h.o2, ?_⟩
  · rw [List.length_set]
    by_cases hik : k = i
    · subst hik
      rw [List.getElem?_set_self hkl] at hi
      obtain rfl := Option.some.inj hi
      exact ⟨q', r', rfl, hl, q0, q1, tok⟩
    · rw [List.getElem?_set_ne hik] at hi
      exact h.row i row hi
  · rcases hq with rfl | hq
    · refine ⟨A, fun i z s hi => ?_⟩
      by_cases hik : k = i
      · subst hik
        rw [List.getElem?_set_self hkl] at hi
        obtain ⟨rfl, rfl⟩ := List.cons.inj (Option.some.inj hi)
        obtain ⟨a1, a2⟩ := hA k _ _ hk
        exact ⟨a1, fun t m t0 => a2 t ((hr t m).1 t0) t0⟩
      · rw [List.getElem?_set_ne hik] at hi
        exact hA i z s hi
    · refine ⟨fun i z => (A i z ∧ z ≠ q') ∨ (z = q' ∧ i ≤ k), fun i z s hi => ?_⟩
      by_cases hik : k = i
      · subst hik
        rw [List.getElem?_set_self hkl] at hi
        obtain ⟨rfl, rfl⟩ := List.cons.inj (Option.some.inj hi)
        refine ⟨.inr ⟨rfl, Nat.le_refl _⟩, fun t m t0 => ?_⟩
        have ht := (tok t m).2.2
        have tk : k < t.toNat := by omega
        refine ⟨fun hh => ?_, fun y hy => ?_⟩
        · rcases hh with ⟨_, h2⟩ | ⟨_, h2⟩
          · exact h2 rfl
          · omega
        · rcases hy with ⟨h1, h2⟩ | ⟨_, h2⟩
          · exact .inl ⟨((hA k _ _ hk).2 t ((hr t m).1 t0) t0).2 y h1, h2⟩
          · omega
      · rw [List.getElem?_set_ne hik] at hi
        have zq := hq i z s hi
        obtain ⟨a1, a2⟩ := hA i z s hi
        refine ⟨.inl ⟨a1, zq⟩, fun t m t0 => ?_⟩
        obtain ⟨b1, b2⟩ := a2 t m t0
        have ht : ¬ (0 ≤ t ∧ t ≤ i) := by
          obtain ⟨q2, r2, e2, _, _, _, h3⟩ := h.row i _ hi
          obtain ⟨rfl, rfl⟩ := List.cons.inj e2
          exact (h3 t m).2.2
        refine ⟨fun hh => ?_, fun y hy => ?_⟩
        · rcases hh with ⟨h1, _⟩ | ⟨h1, _⟩
          · exact b1 h1
          · exact zq h1
        · rcases hy with ⟨h1, h2⟩ | ⟨h1, h2⟩
          · exact .inl ⟨b2 y h1, h2⟩
          · exact .inr ⟨h1, by omega⟩
theorem GoodW.snoc {rows : List (List Int)} {e o q : Int} (h : GoodW rows e o) (hl : rows.length < 400) (q0 : 0 ≤ q) (q1 : q < 48) : GoodW (rows ++ [[q, -1, -1]]) e o := by
  obtain ⟨A, hA⟩ := h.cert
  have e1 := h.e1
  have ll : (rows ++ [[q, -1, -1]]).length = rows.length + 1 := by rw [List.length_append]; rfl
  have cs : ∀ {i : Nat} {row : List Int}, (rows ++ [[q, -1, -1]])[i]? = some row → (i < rows.length ∧ rows[i]? = some row) ∨ (i = rows.length ∧ row = [q, -1, -1]) := fun {i row} hi => by
    by_cases hj : i < rows.length
    · rw [List.getElem?_append_left hj] at hi
      exact .inl ⟨hj, hi⟩
    · rw [List.getElem?_append_right (by omega)] at hi
      have h0 : i - rows.length = 0 := by
        have := (List.getElem?_eq_some_iff.mp hi).1
        rw [List.length_singleton] at this
        omega
      rw [h0] at hi
      exact .inr ⟨by omega, (Option.some.inj hi).symm⟩
  refine ⟨e1, h.e2, by rw [ll]; omega, fun i row hi => ?_, h.o1, by have := h.o2; rw [ll]; omega, fun i z => if i < rows.length then A i z else z = q, fun i z s hi => ?_⟩
  · rw [ll]
    rcases cs hi with ⟨_, hi⟩ | ⟨rfl, rfl⟩
    · obtain ⟨q2, r2, e2, h1, h2, h3, h4⟩ := h.row i row hi
      exact ⟨q2, r2, e2, h1, h2, h3, fun t m => by obtain ⟨x, y, z⟩ := h4 t m; exact ⟨x, by omega, z⟩⟩
    · exact ⟨q, [-1, -1], rfl, .inl rfl, q0, q1, fun t m => by
        have : t = -1 := by simpa using m
        omega⟩
  · show (if i < rows.length then A i z else z = q) ∧ ∀ t, t ∈ s → 0 ≤ t → ¬ (if t.toNat < rows.length then A t.toNat z else z = q) ∧ ∀ y, (if t.toNat < rows.length then A t.toNat y else y = q) → (if i < rows.length then A i y else y = q)
    rcases cs hi with ⟨hil, hi⟩ | ⟨rfl, hi2⟩
    · obtain ⟨a1, a2⟩ := hA i z s hi
      simp only [if_pos hil]
      refine ⟨a1, fun t m t0 => ?_⟩
      have ht : t < rows.length := by
        obtain ⟨q2, r2, e2, _, _, _, h3⟩ := h.row i _ hi
        obtain ⟨rfl, rfl⟩ := List.cons.inj e2
        exact (h3 t m).2.1
      simp only [if_pos (show t.toNat < rows.length by omega)]
      exact a2 t m t0
    · obtain ⟨rfl, rfl⟩ := List.cons.inj hi2
      simp only [if_neg (Nat.lt_irrefl _)]
      refine ⟨trivial, fun t m t0 => ?_⟩
      have : t = -1 := by simpa using m
      omega
theorem set_eq_iff {rows : List (List Int)} {k : Nat} {row row' : List Int} (hk : rows[k]? = some row) : rows = rows.set k row' ↔ row' = row := by
  have hkl : k < rows.length := (List.getElem?_eq_some_iff.mp hk).1
  constructor
  · intro h
    have h2 : (rows.set k row')[k]? = some row' := List.getElem?_set_self hkl
    rw [← h, hk] at h2
    exact (Option.some.inj h2).symm
  · rintro rfl
    refine List.ext_getElem? fun i => ?_
    by_cases hik : k = i
    · subst hik; rw [List.getElem?_set_self hkl, hk]
    · rw [List.getElem?_set_ne hik]
theorem cut_set {α : Type} (l : List α) {k : Nat} (hk : k < l.length) (x : α) : l.take k ++ [x] ++ l.drop (k + 1) = l.set k x := by
  rw [List.set_eq_take_append_cons_drop, if_pos hk, List.append_assoc]
  rfl
/-- a comprehension within one: nothing free in it -/
theorem blkOk_any {N : List Str} {sc0 sc scope : Scope} {own : List (Str × Nat)} (h : blkC N sc0 scope own = true) (hf : (scope.names.all fun y => match y.2 with | NameKind.free => false | _ => true) = true) : BlkOk N sc scope own :=
  let b := blkOk_by h
  have hfree : ∀ y ∈ scope.names, y.2 = NameKind.free → List.lookup y.1 sc.names = some NameKind.cell ∨ List.lookup y.1 sc.names = some NameKind.free := fun y hy e => by
    have := List.all_eq_true.mp hf y hy
    rw [e] at this
    cases this
  ⟨b.kind, b.uniq, b.ix, hfree, b.own⟩
end L2

namespace L2
open PySem PySem.Spec PyProof.Rows
/-! ## operators of an own object and a whole number -/
section
variable {X : Cx} {n : Nat} {CX : CXT} {C f : Addr} {fd : FuncData} {ps : List Str} {sp : Sp} {E : XK} {pins : List (Addr × Obj)} {σ : St} {H : Hp} {s : Shared}
def rOwnI (C : Addr) (sp : Sp) (E : XK) : R2 := fun x y H Q => ∃ a dx fs i, x = .ref a ∧ y = .int i ∧ H a = some (.ins C dx fs) ∧ sp [.ref a, .int i] H Q E
theorem op_ownI {op : Operator} {fo ro rc : Option Value} (F : FnOk X.prog X.w X.K X.mg X.base CX n f fd ps sp) (hr : Room n X.A) (hs : PySem.W.findIn X.K (.ref C) (PySem.dunder op.info.2) = some (some (.ref f))) (hf : PySem.W.isFn X.K (.ref f) = true)
    (hc : PySem.W.selfFirst X.K C = true) (hrr : PySem.W.findIn X.K (.ref C) (dunderR op.info.2) = some rc) (hp : rc = none ∨ ∃ g : Addr, rc = some (.ref g)) (h1 : PySem.W.findIn X.K (.type "int") (PySem.dunder op.info.2) = some fo) (h2 : PySem.W.findIn X.K (.type "int") (dunderR op.info.2) = some ro)
    (hsub : PySem.W.subIn X.K (.type "int") (.ref C) = some false) (hb : Binds X.K fd ps []) (hx : Passes CX X E) : OpR X (binaryOp op) (rOwnI C sp E) := by
  intro pins s σ H x y v u Q I rx ry h
  obtain ⟨a, dx, fs, i, rfl, rfl, ha, h⟩ := h
  cases rx
  obtain ⟨t, rfl⟩ := ry
  obtain ⟨mA, J, _⟩ := ins_get I.hok ha
  obtain ⟨od, J, _⟩ := J.look
  obtain ⟨m, hF⟩ := I.fr
  refine PySem.W.ksp_binT hF I.ok.mod.kin J rfl hc hs hf hrr hp h1 h2 hsub ?_
  exact thn (run_own (vs := [.ref a, .int i]) F ⟨hr, rfl⟩ hb hx I (.cons rfl (.cons ⟨t, rfl⟩ .nil)) h) fun u s' q => back_ep q
end
end L2
namespace PySem
open PySem PySem.Spec PyProof.Rows L2
/-- the whole number's own operator, asked about another thing -/
theorem meets_intBin {name : String} {f : Int → Int → Sem Fin} {i : Int} {t : Tok} {x : Addr} :
    Meets (Builtin.Int.intBinary name f (reflected := false) ⟨[.int i t, .ref x], []⟩) fun A R s => (∃ o, s.heap.get? x = some o ∧ ∀ j u, o.data ≠ .prim (.int j u)) ∧ R (.ok (.ret .notImplemented)) s := by
  intro prog w A R s ⟨⟨o, ho, hd⟩, hR⟩
  unfold Builtin.Int.intBinary
  refine wpAny_bind (wpAny_of_eq (a := ((Value.int i t, [Value.ref x]) : Value × List Value)) rfl ?_)
  refine wpAny_bind (wpAny_of_eq (a := i) rfl ?_)
  refine wpAny_bind (m := asInt? (.ref x)) ?_
  unfold asInt?
  refine wpAny_bind (wpAny_load' ho ?_)
  obtain ⟨oc, odi, data, osl⟩ := o
  have fin : ∀ g : Option Int → Sem Fin, g none = (do rule "int.binary.not-an-int"; ret .notImplemented) → wpAny (model prog w) A.in1 (pure none : Sem (Option Int)) (fun a s' => wpAny (model prog w) A.in1 (g a) (fun fin s' => match fin with
        | Fin.done f => R (Except.ok f) s'
        | Fin.again c' => c'.quiet = true ∧ codeAny (model prog w) A c' R s') (fun e s' => R (Except.error e) s') s') (fun e s' => R (Except.error e) s') s := fun g hg => by
    refine wpAny_pure ?_
    rw [hg]
    exact wpAny_bind (wpAny_rule (wpAny_pure hR))
  cases data with
  | prim v => cases v <;> first | exact fin _ rfl | exact (hd _ _ rfl).elim
  | _ => exact fin _ rfl
end PySem
namespace PySem.W
open PySem PySem.Spec PyProof.Rows L2
section
variable {prog : Program} {w : World} {M : Model} {A : Around} {E : Value → Shared → Prop} {s : Shared} {K : Frag} {x C L f f0 : Addr} {h₀ : Heap} {m : Str → Option Value} {ox : Obj} {od : Option Obj} {nm T : String}
theorem try_int {id : String} {name : Str} {i : Int} {t : Tok} {B : Builtin} {Q : Option Value → Shared → Prop} (slot : Slot "int" name id) (entry : entryFor table id = some B) (args : argsOk id ⟨[.int i t, .ref x], []⟩)
    (me : Meets (B ⟨[.int i t, .ref x], []⟩) fun A R s => (∃ o, s.heap.get? x = some o ∧ ∀ j u, o.data ≠ .prim (.int j u)) ∧ R (.ok (.ret .notImplemented)) s)
    (hx : s.heap.get? x = some ox) (hd : ∀ j u, ox.data ≠ .prim (.int j u)) (q : Q none s) : wpAny (model prog w) A (tryMethod (.int i t) name (.ref x)) Q E s := by
  unfold tryMethod callSpecial?
  refine wpAny_bind ?_
  refine wpAny_bind (wpAny_of_eq (a := some (.builtin id)) (show specialOf (.int i t) name = pure (some (.builtin id)) from slot.lookup) ?_)
  refine wpAny_holding ?_
  refine wpAny_bind (wpAny_of_eq (a := ((Value.builtin id, [Value.int i t]) : Value × List Value)) (slot.bind _) ?_)
  refine wpAny_bind (call_meets slot (typeIs_int s i t) entry args me ⟨⟨ox, hx, hd⟩, ?_⟩)
  exact wpAny_pure (wpAny_pure q)
theorem ksp_binR {op : Operator} {i : Int} {t : Tok} {id : String} {B : Builtin} {Q : Value → Shared → Prop} (F : Fr h₀ L s.heap m) (X₀ : K.In h₀) (I : InstAt s.heap x ox C od) (hd : ∀ j u, ox.data ≠ .prim (.int j u)) (hc : selfFirst K C = true)
    (hs : findIn K (.ref C) (PySem.dunder op.info.2) = some (some (.ref f0))) (hr : findIn K (.ref C) (dunderR op.info.2) = some (some (.ref f))) (hf : isFn K (.ref f) = true)
    (fills : fillsNumberSlot (.type "int") op.info.2 = pure true) (slot : Slot "int" (PySem.dunder op.info.2) id) (entry : entryFor table id = some B) (args : argsOk id ⟨[.int i t, .ref x], []⟩)
    (me : Meets (B ⟨[.int i t, .ref x], []⟩) fun A R s => (∃ o, s.heap.get? x = some o ∧ ∀ j u, o.data ≠ .prim (.int j u)) ∧ R (.ok (.ret .notImplemented)) s)
    (hsub : subIn K (.ref C) (.type "int") = some false)
    (h : wpAny (model prog w) A (call (.ref f) [.ref x, .int i t]) (CmpBack Q) E s) : wpAny (model prog w) A (binaryOp op (.int i t) (.ref x)) Q E s := by
  have X := X₀.keeps F.keep
  obtain ⟨cd, rest, hcd, hm⟩ := ksp_first hc
  rcases hi : op.info with ⟨sym, nm'⟩
  rw [hi] at hs hr fills slot
  dsimp only at hs hr fills slot
  have hxx := I.at_
  have two := ksp_try (b := .int i t) X I hr hf h
  obtain ⟨hh, g, d, tt, os⟩ := s
  have one : ∀ {Q : Option Value → Shared → Prop}, Q none ⟨hh, g, d, tt, os⟩ → wpAny (model prog w) A (tryMethod (.int i t) (PySem.dunder nm') (.ref x)) Q E ⟨hh, g, d, tt, os⟩ := fun q => try_int slot entry args me hxx hd q
  have L1 : Looks (model prog w) hh (typeOf (.int i t)) (.type "int") := Looks.of_pure rfl
  have L2 : Looks (model prog w) hh (typeOf (.ref x)) (.ref C) := I.type
  have L3 : Looks (model prog w) hh (fillsNumberSlot (.type "int") nm') true := Looks.of_pure fills
  have L4 : Looks (model prog w) hh (fillsNumberSlot (.ref C) nm') true := fills_K X hcd hm hs
  have L5 : Looks (model prog w) hh (isSubtype (.ref C) (.type "int")) false := looks_subIn X hsub
  have L7 : Looks (model prog w) hh (numberSlotInPython (.type "int") nm') false := Looks.of_pure rfl
  have hne : (Value.type "int" == Value.ref C) = false := Bool.eq_false_iff.mpr fun q => by cases beq_iff_eq.mp q
  simp only [binaryOp, hi]
  refine wpAny_holding (wpAny_bind ?_)
  unfold binaryOp1
  refine wpAny_bind (L1.at (wpAny_bind (L2.at (wpAny_bind (L3.at ?_)))))
  simp only [hne, Bool.false_eq_true, if_false]
  ksp_lk
  refine one ?_
  ksp_lk
  refine wpAny_mono two (fun r s' hr' => ?_) fun _ _ e => e
  obtain ⟨v, rfl, hq⟩ := hr'
  ksp_lk
  exact hq
end
end PySem.W
namespace L2
open PySem PySem.Spec PyProof.Rows
section
variable {X : Cx} {n : Nat} {CX : CXT} {C f f0 : Addr} {fd : FuncData} {ps : List Str} {sp : Sp} {E : XK} {pins : List (Addr × Obj)} {σ : St} {H : Hp} {s : Shared}
/-- a whole number and an own object: the own reflected method -/
def rIOwn (C : Addr) (sp : Sp) (E : XK) : R2 := fun x y H Q => ∃ a dx fs i, x = .int i ∧ y = .ref a ∧ H a = some (.ins C dx fs) ∧ sp [.ref a, .int i] H Q E
theorem op_IOwn {op : Operator} {id : String} {B : Builtin} (F : FnOk X.prog X.w X.K X.mg X.base CX n f fd ps sp) (hr : Room n X.A) (hs : PySem.W.findIn X.K (.ref C) (PySem.dunder op.info.2) = some (some (.ref f0))) (hrr : PySem.W.findIn X.K (.ref C) (dunderR op.info.2) = some (some (.ref f))) (hf : PySem.W.isFn X.K (.ref f) = true)
    (hc : PySem.W.selfFirst X.K C = true) (fills : fillsNumberSlot (.type "int") op.info.2 = pure true) (slot : Slot "int" (PySem.dunder op.info.2) id) (entry : entryFor table id = some B) (args : ∀ a b : Value, argsOk id ⟨[a, b], []⟩)
    (me : ∀ (i : Int) (t : Tok) (x : Addr), Meets (B ⟨[.int i t, .ref x], []⟩) fun A R s => (∃ o, s.heap.get? x = some o ∧ ∀ j u, o.data ≠ .prim (.int j u)) ∧ R (.ok (.ret .notImplemented)) s)
    (hsub : PySem.W.subIn X.K (.ref C) (.type "int") = some false) (hb : Binds X.K fd ps []) (hx : Passes CX X E) : OpR X (binaryOp op) (rIOwn C sp E) := by
  intro pins s σ H x y v u Q I rx ry h
  obtain ⟨a, dx, fs, i, rfl, rfl, ha, h⟩ := h
  obtain ⟨t, rfl⟩ := rx
  cases ry
  obtain ⟨mA, J, _⟩ := ins_get I.hok ha
  obtain ⟨od, J, _⟩ := J.look
  obtain ⟨m, hF⟩ := I.fr
  refine PySem.W.ksp_binR hF I.ok.mod.kin J (fun j u h => by cases h) hc hs hrr hf fills slot entry (args _ _) (me i t a) hsub ?_
  exact thn (run_own (vs := [.ref a, .int i]) F ⟨hr, rfl⟩ hb hx I (.cons rfl (.cons ⟨t, rfl⟩ .nil)) h) fun u s' q => back_ep q
def rNegOwn (C : Addr) (sp : Sp) (E : XK) : V → Hp → VK → Prop := fun x H Q => ∃ a dx fs, x = .ref a ∧ H a = some (.ins C dx fs) ∧ sp [.ref a] H Q E
theorem un_negOwn (F : FnOk X.prog X.w X.K X.mg X.base CX n f fd ps sp) (hr : Room n X.A) (hs : PySem.W.findIn X.K (.ref C) "__neg__" = some (some (.ref f))) (hf : PySem.W.isFn X.K (.ref f) = true)
    (hb : Binds X.K fd ps []) (hx : Passes CX X E) : UnR X (unaryOp .USub) (rNegOwn C sp E) := by
  intro pins s σ H x v Q I rx h
  obtain ⟨a, dx, fs, rfl, ha, h⟩ := h
  cases rx
  obtain ⟨mA, J, _⟩ := ins_get I.hok ha
  obtain ⟨od, J, _⟩ := J.look
  obtain ⟨m, hF⟩ := I.fr
  exact PySem.W.ksp_neg hF I.ok.mod.kin J hs hf (run_own (vs := [.ref a]) F ⟨hr, rfl⟩ hb hx I (.cons rfl .nil) h)
end
section
variable {X : Cx} {n : Nat} {CX : CXT} {C f f0 : Addr} {fd : FuncData} {ps : List Str} {sp : Sp} {E : XK}
theorem op_addIOwn (F : FnOk X.prog X.w X.K X.mg X.base CX n f fd ps sp) (hr : Room n X.A) (hs : PySem.W.findIn X.K (.ref C) "__add__" = some (some (.ref f0))) (hrr : PySem.W.findIn X.K (.ref C) "__radd__" = some (some (.ref f))) (hf : PySem.W.isFn X.K (.ref f) = true)
    (hc : PySem.W.selfFirst X.K C = true) (hsub : PySem.W.subIn X.K (.ref C) (.type "int") = some false) (hb : Binds X.K fd ps []) (hx : Passes CX X E) : OpR X (binaryOp .Add) (rIOwn C sp E) :=
  op_IOwn F hr hs hrr hf hc PySem.F.fills_int_add PySem.F.slot_int_add PySem.F.entry_int_add PySem.F.args_int_add_2 (fun _ _ _ => meets_intBin) hsub hb hx
theorem op_subIOwn (F : FnOk X.prog X.w X.K X.mg X.base CX n f fd ps sp) (hr : Room n X.A) (hs : PySem.W.findIn X.K (.ref C) "__sub__" = some (some (.ref f0))) (hrr : PySem.W.findIn X.K (.ref C) "__rsub__" = some (some (.ref f))) (hf : PySem.W.isFn X.K (.ref f) = true)
    (hc : PySem.W.selfFirst X.K C = true) (hsub : PySem.W.subIn X.K (.ref C) (.type "int") = some false) (hb : Binds X.K fd ps []) (hx : Passes CX X E) : OpR X (binaryOp .Sub) (rIOwn C sp E) :=
  op_IOwn F hr hs hrr hf hc PySem.F.fills_int_sub PySem.F.slot_int_sub PySem.F.entry_int_sub PySem.F.args_int_sub_2 (fun _ _ _ => meets_intBin) hsub hb hx
theorem op_mulIOwn (F : FnOk X.prog X.w X.K X.mg X.base CX n f fd ps sp) (hr : Room n X.A) (hs : PySem.W.findIn X.K (.ref C) "__mul__" = some (some (.ref f0))) (hrr : PySem.W.findIn X.K (.ref C) "__rmul__" = some (some (.ref f))) (hf : PySem.W.isFn X.K (.ref f) = true)
    (hc : PySem.W.selfFirst X.K C = true) (hsub : PySem.W.subIn X.K (.ref C) (.type "int") = some false) (hb : Binds X.K fd ps []) (hx : Passes CX X E) : OpR X (binaryOp .Mult) (rIOwn C sp E) :=
  op_IOwn F hr hs hrr hf hc PySem.F.fills_int_mul PySem.F.slot_int_mul PySem.F.entry_int_mul PySem.F.args_int_mul_2 (fun _ _ _ => meets_intBin) hsub hb hx
end
end L2
namespace PySem.W
open PySem PySem.Spec PyProof.Rows L2
section
variable {prog : Program} {w : World} {M : Model} {A : Around} {E : Value → Shared → Prop} {s : Shared} {K : Frag} {x C L f f0 : Addr} {h₀ : Heap} {m : Str → Option Value} {ox : Obj} {od : Option Obj}
theorem ifBound_int {id : String} {name : Str} {i : Int} {t : Tok} {Q : Option Value → Shared → Prop} (slot : Slot "int" name id)
    (h : wpAny M A (call (.builtin id) [.int i t, .ref x]) (fun v => Q (some v)) E s) : wpAny M A (callSpecialIfBound? (.int i t) name [.ref x]) Q E s := by
  simp only [callSpecialIfBound?, bindSpecialIfBound?]
  refine wpAny_holding (wpAny_bind (wpAny_bind (wpAny_of_eq (a := some (.builtin id)) (show specialOf (.int i t) name = pure (some (.builtin id)) from slot.lookup) ?_)))
  refine wpAny_bind (wpAny_askSetting (wpAny_ite ?_))
  have fin : wpAny M A (call (.builtin id) ([.int i t] ++ [.ref x]) >>= fun v => pure (some v)) Q E s := wpAny_bind (wpAny_mono h (fun v s' h' => wpAny_pure h') fun _ _ h' => h')
  split
  · exact wpAny_bind (wpAny_of_eq (slot.bind _) (wpAny_pure (by exact fin)))
  · exact wpAny_tryCatch (wpAny_bind (wpAny_of_eq (slot.bind _) (wpAny_pure (by exact fin))))
theorem tryc_int {id : String} {name : Str} {i : Int} {t : Tok} {B : Builtin} {Q : Option Value → Shared → Prop} (slot : Slot "int" name id) (entry : entryFor table id = some B) (args : argsOk id ⟨[.int i t, .ref x], []⟩)
    (me : Meets (B ⟨[.int i t, .ref x], []⟩) fun A R s => (∃ o, s.heap.get? x = some o ∧ ∀ j u, o.data ≠ .prim (.int j u)) ∧ R (.ok (.ret .notImplemented)) s)
    (hx : s.heap.get? x = some ox) (hd : ∀ j u, ox.data ≠ .prim (.int j u)) (q : Q none s) : wpAny (model prog w) A (tryCompare (.int i t) name (.ref x)) Q E s := by
  unfold tryCompare
  refine wpAny_bind (ifBound_int slot ?_)
  refine call_meets slot (typeIs_int s i t) entry args me ⟨⟨ox, hx, hd⟩, ?_⟩
  exact wpAny_pure q
theorem ksp_cmpR {op : CmpOp} {i : Int} {t : Tok} {id : String} {B : Builtin} {Q : Value → Shared → Prop} (hu : A.units < cLine) (F : Fr h₀ L s.heap m) (X₀ : K.In h₀) (I : InstAt s.heap x ox C od) (hd : ∀ j u, ox.data ≠ .prim (.int j u))
    (hr : findIn K (.ref C) (cmpInfo op).2.2 = some (some (.ref f))) (hf : isFn K (.ref f) = true) (slot : Slot "int" (cmpInfo op).2.1 id) (entry : entryFor table id = some B) (args : argsOk id ⟨[.int i t, .ref x], []⟩)
    (me : Meets (B ⟨[.int i t, .ref x], []⟩) fun A R s => (∃ o, s.heap.get? x = some o ∧ ∀ j u, o.data ≠ .prim (.int j u)) ∧ R (.ok (.ret .notImplemented)) s)
    (hsub : subIn K (.ref C) (.type "int") = some false)
    (h : wpAny (model prog w) A (call (.ref f) [.ref x, .int i t]) (CmpBack Q) E s) : wpAny (model prog w) A (richCompare op (.int i t) (.ref x)) Q E s := by
  have X := X₀.keeps F.keep
  have two : wpAny (model prog w) A (tryCompare (.ref x) (cmpInfo op).2.2 (.int i t)) (fun r s' => ∃ v, r = some v ∧ Q v s') E s := by
    unfold tryCompare
    refine wpAny_bind (ifBound_K X I hr hf (wpAny_mono h (fun v s' hv => ?_) fun _ _ e => e))
    cases v <;> first | exact hv.elim | exact wpAny_pure ⟨_, rfl, hv⟩
  have hxx := I.at_
  have hne : (Value.type "int" != Value.ref C) = true := by rfl
  unfold richCompare
  have h1 : oneThing? op (.int i t) (.ref x) = none := by cases op <;> rfl
  simp only [h1]
  refine wpAny_holding (wpAny_bind (wpAny_cRoomFor hu ?_))
  refine wpAny_bind (wpAny_of_eq (a := Value.type "int") rfl ?_)
  refine wpAny_bind (I.type.here ?_)
  rw [if_pos hne]
  refine wpAny_bind ((looks_subIn X hsub).here ?_)
  simp only [Bool.false_eq_true, if_false]
  refine wpAny_bind (tryc_int slot entry args me hxx hd ?_)
  refine wpAny_bind (wpAny_mono two (fun r s' z => ?_) fun _ _ e => e)
  obtain ⟨v, rfl, hq⟩ := z
  exact wpAny_pure hq
end
end PySem.W
namespace L2
open PySem PySem.Spec PyProof.Rows
section
variable {X : Cx} {n : Nat} {CX : CXT} {C f : Addr} {fd : FuncData} {ps : List Str} {sp : Sp} {E : XK}
/-- own object < whole number .. -/
theorem cmp_ownI {op : CmpOp} (F : FnOk X.prog X.w X.K X.mg X.base CX n f fd ps sp) (hr : Room n X.A) (hs : PySem.W.findIn X.K (.ref C) (PySem.cmpInfo op).2.1 = some (some (.ref f))) (hf : PySem.W.isFn X.K (.ref f) = true)
    (hsub : PySem.W.subIn X.K (.type "int") (.ref C) = some false) (hb : Binds X.K fd ps []) (hx : Passes CX X E) : OpR X (richCompare op) (rOwnI C sp E) := by
  intro pins s σ H x y v u Q I rx ry h
  obtain ⟨a, dx, fs, i, rfl, rfl, ha, h⟩ := h
  cases rx
  obtain ⟨t, rfl⟩ := ry
  obtain ⟨mA, J, _⟩ := ins_get I.hok ha
  obtain ⟨od, J, _⟩ := J.look
  obtain ⟨m, hF⟩ := I.fr
  refine PySem.W.cmp_K hr.units0 hF I.ok.mod.kin J (PySem.W.Looks.of_pure rfl) (by unfold PySem.W.notFirst; rw [hsub]; rfl) hs hf ?_
  exact thn (run_own (vs := [.ref a, .int i]) F ⟨hr, rfl⟩ hb hx I (.cons rfl (.cons ⟨t, rfl⟩ .nil)) h) fun u s' q => back_ep q
/-- whole number < own object .., by the own method of the other direction -/
theorem cmp_IOwn {op : CmpOp} {id : String} {B : Builtin} (F : FnOk X.prog X.w X.K X.mg X.base CX n f fd ps sp) (hr : Room n X.A) (hs : PySem.W.findIn X.K (.ref C) (PySem.cmpInfo op).2.2 = some (some (.ref f))) (hf : PySem.W.isFn X.K (.ref f) = true)
    (slot : Slot "int" (PySem.cmpInfo op).2.1 id) (entry : entryFor table id = some B) (args : ∀ a b : Value, argsOk id ⟨[a, b], []⟩)
    (me : ∀ (i : Int) (t : Tok) (x : Addr), Meets (B ⟨[.int i t, .ref x], []⟩) fun A R s => (∃ o, s.heap.get? x = some o ∧ ∀ j u, o.data ≠ .prim (.int j u)) ∧ R (.ok (.ret .notImplemented)) s)
    (hsub : PySem.W.subIn X.K (.ref C) (.type "int") = some false) (hb : Binds X.K fd ps []) (hx : Passes CX X E) : OpR X (richCompare op) (rIOwn C sp E) := by
  intro pins s σ H x y v u Q I rx ry h
  obtain ⟨a, dx, fs, i, rfl, rfl, ha, h⟩ := h
  obtain ⟨t, rfl⟩ := rx
  cases ry
  obtain ⟨mA, J, _⟩ := ins_get I.hok ha
  obtain ⟨od, J, _⟩ := J.look
  obtain ⟨m, hF⟩ := I.fr
  refine PySem.W.ksp_cmpR hr.units0 hF I.ok.mod.kin J (fun j u h => by cases h) hs hf slot entry (args _ _) (me i t a) hsub ?_
  exact thn (run_own (vs := [.ref a, .int i]) F ⟨hr, rfl⟩ hb hx I (.cons rfl (.cons ⟨t, rfl⟩ .nil)) h) fun u s' q => back_ep q
theorem cmp_ltIOwn (F : FnOk X.prog X.w X.K X.mg X.base CX n f fd ps sp) (hr : Room n X.A) (hs : PySem.W.findIn X.K (.ref C) "__gt__" = some (some (.ref f))) (hf : PySem.W.isFn X.K (.ref f) = true) (hsub : PySem.W.subIn X.K (.ref C) (.type "int") = some false) (hb : Binds X.K fd ps []) (hx : Passes CX X E) : OpR X (richCompare .Lt) (rIOwn C sp E) :=
  cmp_IOwn F hr hs hf PySem.F.slot_int_lt PySem.F.entry_int_lt PySem.F.args_int_lt_2 (fun _ _ _ => meets_intBin) hsub hb hx
theorem cmp_leIOwn (F : FnOk X.prog X.w X.K X.mg X.base CX n f fd ps sp) (hr : Room n X.A) (hs : PySem.W.findIn X.K (.ref C) "__ge__" = some (some (.ref f))) (hf : PySem.W.isFn X.K (.ref f) = true) (hsub : PySem.W.subIn X.K (.ref C) (.type "int") = some false) (hb : Binds X.K fd ps []) (hx : Passes CX X E) : OpR X (richCompare .LtE) (rIOwn C sp E) :=
  cmp_IOwn F hr hs hf PySem.F.slot_int_le PySem.F.entry_int_le PySem.F.args_int_le_2 (fun _ _ _ => meets_intBin) hsub hb hx
theorem cmp_gtIOwn (F : FnOk X.prog X.w X.K X.mg X.base CX n f fd ps sp) (hr : Room n X.A) (hs : PySem.W.findIn X.K (.ref C) "__lt__" = some (some (.ref f))) (hf : PySem.W.isFn X.K (.ref f) = true) (hsub : PySem.W.subIn X.K (.ref C) (.type "int") = some false) (hb : Binds X.K fd ps []) (hx : Passes CX X E) : OpR X (richCompare .Gt) (rIOwn C sp E) :=
  cmp_IOwn F hr hs hf PySem.F.slot_int_gt PySem.F.entry_int_gt PySem.F.args_int_gt_2 (fun _ _ _ => meets_intBin) hsub hb hx
theorem cmp_geIOwn (F : FnOk X.prog X.w X.K X.mg X.base CX n f fd ps sp) (hr : Room n X.A) (hs : PySem.W.findIn X.K (.ref C) "__le__" = some (some (.ref f))) (hf : PySem.W.isFn X.K (.ref f) = true) (hsub : PySem.W.subIn X.K (.ref C) (.type "int") = some false) (hb : Binds X.K fd ps []) (hx : Passes CX X E) : OpR X (richCompare .GtE) (rIOwn C sp E) :=
  cmp_IOwn F hr hs hf PySem.F.slot_int_ge PySem.F.entry_int_ge PySem.F.args_int_ge_2 (fun _ _ _ => meets_intBin) hsub hb hx
theorem cmp_eqIOwn (F : FnOk X.prog X.w X.K X.mg X.base CX n f fd ps sp) (hr : Room n X.A) (hs : PySem.W.findIn X.K (.ref C) "__eq__" = some (some (.ref f))) (hf : PySem.W.isFn X.K (.ref f) = true) (hsub : PySem.W.subIn X.K (.ref C) (.type "int") = some false) (hb : Binds X.K fd ps []) (hx : Passes CX X E) : OpR X (richCompare .Eq) (rIOwn C sp E) :=
  cmp_IOwn F hr hs hf PySem.F.slot_int_eq PySem.F.entry_int_eq PySem.F.args_int_eq_2 (fun _ _ _ => meets_intBin) hsub hb hx
end
end L2
namespace L2
open PySem PySem.Spec PyProof.Rows
theorem op_or2 {X : Cx} {f : Value → Value → Sem Value} {r1 r2 : R2} (h1 : OpR X f r1) (h2 : OpR X f r2) : OpR X f (fun x y H Q => r1 x y H Q ∨ r2 x y H Q) :=
  fun pins s σ H x y v u Q I rx ry h => h.elim (h1 pins s σ H x y v u Q I rx ry) (h2 pins s σ H x y v u Q I rx ry)
/-! ratios -/
def RatAt (C : Addr) (H : Hp) (x : Addr) (t b : Int) : Prop := ∃ dx, H x = some (.ins C dx [("top", .int t), ("bottom", .int b)])
def Nrm (t b : Int) : Prop := 0 < b ∧ Nat.gcd t.natAbs b.natAbs = 1
/-- t / b is p / q -/
def IsR (t b p q : Int) : Prop := Nrm t b ∧ t * q = p * b
def RV (C : Addr) (H : Hp) (y : V) (p q : Int) : Prop := (y = .int p ∧ q = 1) ∨ ∃ b, y = .ref b ∧ RatAt C H b p q
theorem RatAt.same {C : Addr} {H H' : Hp} {x : Addr} {t b : Int} (s : Same H H') (h : RatAt C H x t b) : RatAt C H' x t b := let ⟨dx, e⟩ := h; ⟨dx, s _ _ e⟩
theorem RV.same {C : Addr} {H H' : Hp} {y : V} {p q : Int} (s : Same H H') (h : RV C H y p q) : RV C H' y p q := h.elim (fun h => .inl h) fun ⟨b, e, h⟩ => .inr ⟨b, e, h.same s⟩
theorem putR1 {v : V} : putF ("top" : Str) v [] = [(("top" : Str), v)] := by rfl
theorem putR2 {u v : V} : putF ("bottom" : Str) v [(("top" : Str), u)] = [(("top" : Str), u), (("bottom" : Str), v)] := by rfl
theorem nrm_div {p q : Int} (hq : q ≠ 0) {g : Nat} (hg : g = Nat.gcd p.natAbs q.natAbs) : IsR (p / (if 0 < q then (g : Int) else -(g : Int))) (q / (if 0 < q then (g : Int) else -(g : Int))) p q := by
  have g0 : 0 < g := by rw [hg]; exact Nat.gcd_pos_of_pos_right _ (by omega)
  obtain ⟨p', hp'⟩ : (g : Int) ∣ p := Int.ofNat_dvd_left.mpr (by rw [hg]; exact Nat.gcd_dvd_left _ _)
  obtain ⟨q', hq'⟩ : (g : Int) ∣ q := Int.ofNat_dvd_left.mpr (by rw [hg]; exact Nat.gcd_dvd_right _ _)
  have cop : Nat.gcd p'.natAbs q'.natAbs = 1 := by
    have h1 := congrArg Int.natAbs hp'
    have h2 := congrArg Int.natAbs hq'
    rw [Int.natAbs_mul, Int.natAbs_natCast] at h1 h2
    rw [h1, h2, Nat.gcd_mul_left] at hg
    exact Nat.eq_of_mul_eq_mul_left g0 (by rw [← hg, Nat.mul_one])
  have gi : (g : Int) ≠ 0 := by omega
  clear hg
  split
  · rename_i h
    have e1 : p / (g : Int) = p' := by rw [hp', Int.mul_ediv_cancel_left _ gi]
    have e2 : q / (g : Int) = q' := by rw [hq', Int.mul_ediv_cancel_left _ gi]
    rw [e1, e2]
    refine ⟨⟨?_, cop⟩, ?_⟩
    · refine Int.not_le.mp fun z => ?_
      have := Int.mul_nonneg (a := (g : Int)) (b := -q') (by omega) (by omega)
      rw [Int.mul_neg] at this
      omega
    · rw [hp', hq']
      simp [Int.mul_comm, Int.mul_left_comm, Int.mul_assoc]
  · rename_i h
    have e1 : p / -(g : Int) = -p' := by rw [hp', Int.ediv_neg, Int.mul_ediv_cancel_left _ gi]
    have e2 : q / -(g : Int) = -q' := by rw [hq', Int.ediv_neg, Int.mul_ediv_cancel_left _ gi]
    rw [e1, e2]
    refine ⟨⟨?_, by rw [Int.natAbs_neg, Int.natAbs_neg]; exact cop⟩, ?_⟩
    · have : q' < 0 := by
        refine Int.not_le.mp fun z => h ?_
        have h1 : 0 ≤ (g : Int) * q' := Int.mul_nonneg (by omega) z
        omega
      omega
    · rw [hp', hq']
      grind
end L2
namespace L2
open PySem PySem.Spec PyProof.Rows
def Sz (k : Nat) (i : Int) : Prop := i.natAbs < 2 ^ k
theorem Sz.mono {k l : Nat} {i : Int} (h : Sz k i) (e : k ≤ l) : Sz l i := Nat.lt_of_lt_of_le h (Nat.pow_le_pow_right (by decide) e)
theorem Sz.mul {k l : Nat} {i j : Int} (a : Sz k i) (b : Sz l j) : Sz (k + l) (i * j) := by
  unfold Sz at *
  rw [Int.natAbs_mul, Nat.pow_add]
  exact Nat.mul_lt_mul'' a b
theorem Sz.add {k : Nat} {i j : Int} (a : Sz k i) (b : Sz k j) : Sz (k + 1) (i + j) := by
  unfold Sz at *
  have := Int.natAbs_add_le i j
  rw [Nat.pow_succ]
  omega
theorem Sz.neg {k : Nat} {i : Int} (a : Sz k i) : Sz k (-i) := by
  unfold Sz at *
  rwa [Int.natAbs_neg]
theorem Sz.le {k : Nat} {i j : Int} (a : Sz k i) (h : j.natAbs ≤ i.natAbs) : Sz k j := Nat.lt_of_le_of_lt h a
theorem Sz.mulW {k l : Nat} {i j : Int} (a : Sz k i) (b : Sz l j) (h : k + l ≤ 900) : CMulW i j :=
  wide_mul (a := k + 1) (b := l + 1) (a.mono (Nat.le_succ _)) (b.mono (Nat.le_succ _)) (Nat.succ_pos _) (Nat.succ_pos _) (by omega)
theorem isR_int {t b i : Int} (h : IsR t b i 1) : b = 1 ∧ t = i := by
  obtain ⟨⟨h0, hg⟩, e⟩ := h
  rw [Int.mul_one] at e
  have : b.natAbs ∣ t.natAbs := by rw [e, Int.natAbs_mul]; exact Nat.dvd_mul_left _ _
  rw [Nat.gcd_comm, Nat.gcd_eq_left this] at hg
  have hb : b = 1 := by omega
  exact ⟨hb, by rw [e, hb, Int.mul_one]⟩
def spRInit (C : Addr) : Sp := fun vs H Q _ => ∃ (x dx : Addr) (p q : Int), vs = [.ref x, .int p, .int q] ∧ H x = some (.ins C dx []) ∧ 0 < q ∧ Sz 900 q ∧
  ∀ H' t b, RatAt C H' x t b → (∀ c u, c ≠ x → H c = some u → H' c = some u) → IsR t b p q → t.natAbs ≤ p.natAbs → b.natAbs ≤ q.natAbs → Q .non H'
def spRof (C : Addr) : Sp := fun vs H Q _ => ∃ (y : V) (p q : Int), vs = [y] ∧ RV C H y p q ∧ ∀ H' r, Same H H' → RatAt C H' r p q → Q (.ref r) H'
def spRNew (C : Addr) (H : Hp) (p q : Int) (Q : VK) : Prop := ∀ H' r t b, Same H H' → RatAt C H' r t b → IsR t b p q → t.natAbs ≤ p.natAbs → b.natAbs ≤ q.natAbs → Q (.ref r) H'
def spRAdd (C : Addr) : Sp := fun vs H Q _ => ∃ (x : Addr) (y : V) (t1 b1 t2 b2 : Int), vs = [.ref x, y] ∧ RatAt C H x t1 b1 ∧ RV C H y t2 b2 ∧ 0 < b1 ∧ 0 < b2 ∧ Sz 400 t1 ∧ Sz 400 b1 ∧ Sz 400 t2 ∧ Sz 400 b2 ∧ spRNew C H (t1 * b2 + t2 * b1) (b1 * b2) Q
def spRNeg (C : Addr) : Sp := fun vs H Q _ => ∃ (x : Addr) (t1 b1 : Int), vs = [.ref x] ∧ RatAt C H x t1 b1 ∧ 0 < b1 ∧ Sz 400 b1 ∧ spRNew C H (-t1) b1 Q
def spRSub (C : Addr) : Sp := fun vs H Q _ => ∃ (x : Addr) (y : V) (t1 b1 t2 b2 : Int), vs = [.ref x, y] ∧ RatAt C H x t1 b1 ∧ RV C H y t2 b2 ∧ Nrm t1 b1 ∧ Nrm t2 b2 ∧ Sz 400 t1 ∧ Sz 400 b1 ∧ Sz 400 t2 ∧ Sz 400 b2 ∧ spRNew C H (t1 * b2 + -t2 * b1) (b1 * b2) Q
/-- a comparison of fractions -/
def spRCmp (C : Addr) (f : Int → Int → Bool) : Sp := fun vs H Q _ => ∃ (x : Addr) (y : V) (t1 b1 t2 b2 : Int), vs = [.ref x, y] ∧ RatAt C H x t1 b1 ∧ RV C H y t2 b2 ∧ Nrm t1 b1 ∧ Nrm t2 b2 ∧ Sz 400 t1 ∧ Sz 400 b1 ∧ Sz 400 t2 ∧ Sz 400 b2 ∧ ∀ H', Same H H' → Q (.bl (f (t1 * b2) (t2 * b1))) H'
end L2
namespace L2
open PySem PySem.Spec PyProof.Rows
/-- a def with defaults that lets no error out -/
theorem FunD.ok0 {P : Program} {w : World} {K : PySem.W.Frag} {mg : Str → Option Value} {base : Heap} {x qual : Str} {params : Arguments} {body : List Stmt} {scope : Scope} {dvs : List V} {kws : List (Str × V)} {f : Addr} {fd : FuncData} {N ps : List Str} {k : Nat} {sp : Sp} (F : FunD K x qual params body scope dvs kws f fd) (S : FnScope N ps scope) (len : ∀ vs H Q E, sp vs H Q E → vs.length = ps.length)
    (hbody : ∀ (cdv : Value) (A : Around) (outer : List Env) (s : Shared) (H : Hp) (vs : List V) (Q : VK) (E : XK), Room k (A.deeper (envOfC qual scope s.heap.objs.size f cdv)) → sp vs H Q E →
      ∃ t, PSs (cxOf CX0 P w K mg base N qual scope f cdv A outer s H E).nox body t ∧ t { nx := fun _ H' => Q .non H', rt := Q } (start N vs) H) : FnOk P w K mg base CX0 (k + 1) f fd ps sp := by
  obtain ⟨oc, od, dV, kV, doc, pm, an, cdv, ct, osl, rfl, lk, hcd, _, _⟩ := F.ex
  refine fn_of lk hcd S len fun A outer s H vs Q E hr hsp => ?_
  obtain ⟨t, h, q⟩ := hbody cdv A outer s H vs Q E hr hsp
  exact ⟨t, h.nox, q⟩
end L2
namespace L2
open PySem PySem.Spec PyProof.Rows
theorem kit_int {K : PySem.W.Frag} {C : Addr} (h2 : PySem.W.isClsIn K C = true) (h3 : PySem.W.typeIn K (.ref C) = some (.type "type")) : PySem.W.kitOne K (.type "int") (.ref C) = some false := by
  unfold PySem.W.kitOne
  split
  · rename_i h
    cases h
  · show (if ((PySem.W.clsIn K C).isSome && PySem.W.typeIn K (.ref C) == some (.type "type")) = true then PySem.W.subIn K (.type "int") (.ref C) else none) = some false
    rw [show (PySem.W.clsIn K C).isSome = true from h2, h3]
    rfl
end L2

namespace L2
open PySem PySem.Spec PyProof.Rows
section
variable {X : Cx}
/-- sum(t) of a tuple of ints -/
def rSumT (K : PySem.W.Frag) : List V → Hp → VK → Prop := fun vs H Q => ∃ (a : Addr) (ns : List Int), vs = [V.ref a] ∧ SqT K H a (ns.map V.int) ∧ Q (.int ns.sum) H
theorem cr_sumT (hc : X.calm = true) : CallR X (.builtin "sum") (rSumT X.K) := by
  intro pins s σ H vs us Q I r h
  obtain ⟨a, ns, rfl, hs, q⟩ := h
  obtain ⟨its, rv, hl, _⟩ := I.tuple hs
  rw [Vals.ref1 r]
  have hi : IntsAre its ns := rv.ints
  obtain ⟨xs, hx⟩ := hi.allInts.items
  have hn : numsOf its.toArray.toList = ns := by rw [show its.toArray.toList = its from rfl, hi.numsOf]
  have hl' : s.heap.IsTuple a its.toArray := hl
  rw [hx] at hl' hn
  rw [nums_intItems] at hn
  refine PySem.W.ktm_sumG (I.ok.hd hc) hl' fun h' tk t' hk => ?_
  rw [preSum_eq, List.take_of_length_le (by simp), hn]
  exact ⟨.int _, H, I.kept hk, ⟨_, rfl⟩, q⟩
/-- a tuple times 1 -/
theorem tuple_mul1 (l : Addr) (items : Array Value) (n : Nat) (dd : Option Addr) (sl : Array (Option Value)) (u : Tok) (c1 : items.isEmpty = false) :
    Meets (Builtin.«tuple.__mul__» ⟨[.ref l, .int 1 u], []⟩) (fun _ R s => s.heap.get? l = some { cls := .type "tuple", dict := dd, data := .seq items n, slots := sl } ∧ R (.ok (.ret (Value.ref l))) s) :=
  .of_wp fun prog w A R s h => by
    obtain ⟨hp, g, d, tk, os⟩ := s
    obtain ⟨hl, h⟩ := h
    have c0 : (decide ((1 : Int) < -(2 ^ 63)) || decide ((1 : Int) ≥ 2 ^ 63)) = false := by decide
    have c2 : (items.isEmpty || (1 : Int) == 1) = true := by rw [c1]; rfl
    wp_walk using wpAny_loadPart' hl
    exact ⟨_, rfl, h⟩
def rRepT1 (K : PySem.W.Frag) : R2 := fun x y H Q => ∃ l xs, x = .ref l ∧ y = .int 1 ∧ SqT K H l xs ∧ xs ≠ [] ∧ Q (.ref l) H
theorem op_repT1 : OpR X (binaryOp .Mult) (rRepT1 X.K) := by
  intro pins s σ H x y v u Q I rx ry h
  obtain ⟨l, xs, rfl, rfl, hT, hne, q⟩ := h
  cases rx
  obtain ⟨t, rfl⟩ := ry
  obtain ⟨its, r, ⟨⟨cls, dd, data, sl⟩, ho, hc, n, hd⟩, hs⟩ := I.tuple hT
  simp only at hc hd
  subst hc hd
  have hle : its.length = xs.length := r.length.symm
  have hi : its.toArray.isEmpty = false := by
    cases its with
    | nil => exact absurd (List.eq_nil_of_length_eq_zero hle.symm) hne
    | cons a b => rfl
  exact wpAny_binaryOp_repeat_ref (T := "tuple") (U := "int") (by decide) ⟨_, ho, rfl⟩ (fun s' => typeIs_int s' 1 t) noFill_tuple_mul F.fills_int_mul F.slot_int_rmul repeat_tuple F.slot_int_index.lookup
    (call_meets F.slot_int_rmul (typeIs_int s 1 t) F.entry_int_rmul (F.args_int_rmul_2 _ _) (int_rmul_tuple 1 t l its.toArray n dd sl)
      ⟨ho, rfl, ⟨_, ho, rfl⟩, call_meets F.slot_tuple_mul ⟨_, ho, rfl⟩ F.entry_tuple_mul (F.args_tuple_mul_2 _ _) (tuple_mul1 l its.toArray n dd sl t hi) ⟨ho, ⟨.ref l, H, I, rfl, q⟩⟩⟩)
theorem pe_makeN0 {CX : CXT} {k n : Nat} {f C : Addr} {fd : FuncData} {ps ks : List Str} {sp : Sp} {E : St → XK} {x : Str} {p pos : Pos} {kws : List Keyword} {tk : TA} {g : List Value → List Value → List Value} {gV : List V → List V → List V}
    (M : Mk X.K C f) (F : FnOk X.prog X.w X.K X.mg X.base CX k f fd ps sp) (hr : Room (k + 1) X.A) (hg : Gl X x) (hm : X.mg x = some (.ref C)) (hb : KBn X.K fd ps n ks g gV) (hx : ∀ σ, PassesAt CX X σ (E σ))
    (hk : PK X kws tk) (h1 : ((backToKw pos (keywordEach kws X.env)).all fun x => x.fst.isSome) = true := by rfl) (h2 : List.filterMap (fun x => x.fst) (backToKw pos (keywordEach kws X.env)) = ks := by rfl)
    (hdb : (x == ("__debug__" : Str)) = false := by decide)
    (hpl : ((((backTo pos (starEach [] X.env)).any fun x => x.fst) || (backToKw pos (keywordEach kws X.env)).any fun x => x.fst.isNone) = false) := by rfl) :
    PE X (.Call (.Name x p) [] kws pos) (tMakeN C n ks.length sp gV E tNil tk) := by
  refine ⟨fun pins s σ H Q I h => wpAny_Call_Name_kw (ld_glob I hg hm ?_ hdb)⟩
  refine PySem.W.callWith_KW0 (h₀ := X.base) I.ok.mod.kin M.kp h1 (thn (hk.run pos pins s σ H _ I h) fun ws s2 hh => ?_) hpl
  obtain ⟨zs, H2, I2, rz, hn, hz, q⟩ := hh
  refine ⟨I2.kIn, ?_⟩
  rw [h2]
  exact run_makeN M F hr hb (hx σ) I2 .nil rz hn hz q
end
end L2

/-! a piece of code that holds with every sleeping generator shut leaves the sleeping ones as they are -/
namespace Gk
open PySem PyProof.Rows
open Sem (wp)
def sus : GenState → Bool
  | .suspended .. => true
  | _ => false
/-- shut: who wakes it is stuck -/
def stk : GenState → GenState
  | .suspended _ l c p fs cl => .suspended (fun _ => .unsupported "") l c p fs cl
  | x => x
def sel (Y : Array GenState) (i : Nat) (x : GenState) : GenState := match Y[i]? with
  | some y => bif sus y then y else x
  | none => x
def put (Y a : Array GenState) : Array GenState := a.mapIdx (sel Y)
def pt (Y : Array GenState) (s : Shared) : Shared := { s with gens := put Y s.gens }
/-- the generator g was not asleep -/
def Up (Y : Array GenState) (g : Nat) : Prop := ∀ y, Y[g]? = some y → sus y = false
theorem put_get {Y a : Array GenState} {i : Nat} : (put Y a)[i]? = a[i]?.map (sel Y i) := by
  unfold put
  rw [Array.getElem?_mapIdx]
theorem sel_up {Y : Array GenState} {g : Nat} {x : GenState} (h : Up Y g) : sel Y g x = x := by
  unfold sel
  split
  · rename_i y e
    rw [h y e]; rfl
  · rfl
theorem put_size {Y a : Array GenState} : (put Y a).size = a.size := by unfold put; simp
theorem put_set {Y a : Array GenState} {g : Nat} {x : GenState} (h : Up Y g) : put Y (a.setIfInBounds g x) = (put Y a).setIfInBounds g x := by
  refine Array.ext_getElem? fun i => ?_
  rw [put_get, Array.getElem?_setIfInBounds, Array.getElem?_setIfInBounds, put_get, put_size]
  by_cases hg : g = i
  · subst hg
    by_cases hs : g < a.size
    · simp [hs, sel_up h]
    · simp [hs]
  · simp [hg]
theorem put_push {Y a : Array GenState} {x : GenState} (h : Y.size ≤ a.size) : put Y (a.push x) = (put Y a).push x := by
  refine Array.ext_getElem? fun i => ?_
  rw [put_get, Array.getElem?_push, Array.getElem?_push, put_get, put_size]
  by_cases hi : i = a.size
  · subst hi
    have : Up Y a.size := fun y e => by
      have := (Array.getElem?_eq_some_iff.mp e).1
      omega
    simp [sel_up this]
  · simp [hi]
structure GOk (Y a : Array GenState) : Prop where
  size : Y.size ≤ a.size
  st : ∀ (i : Nat) y, Y[i]? = some y → sus y = true → a[i]? = some (stk y)
  ng : ∀ (i : Nat) k l c p fs cl, a[i]? = some (.suspended k l c p fs cl) → Up Y i → splitAtGen fs = none
def FOk (Y : Array GenState) (fs : List Frame) : Prop := ∀ g k l c p, Frame.gen g k l c p ∈ fs → Up Y g
def EOk : End → Prop
  | .ret _ => True
  | .susp _ _ _ _ _ _ fs => splitAtGen fs = none
theorem GOk.set {Y a : Array GenState} {g : Nat} {x : GenState} (o : GOk Y a) (h : Up Y g) (hx : ∀ k l c p fs cl, x = .suspended k l c p fs cl → splitAtGen fs = none) : GOk Y (a.setIfInBounds g x) := by
  refine ⟨by simp only [Array.size_setIfInBounds]; exact o.size, fun i y e hy => ?_, fun i k l c p fs cl e u => ?_⟩
  · have hg : g ≠ i := fun z => by
      subst z
      rw [h y e] at hy
      cases hy
    rw [Array.getElem?_setIfInBounds_ne hg]
    exact o.st i y e hy
  · by_cases hg : g = i
    · subst hg
      by_cases hs : g < a.size
      · rw [Array.getElem?_setIfInBounds] at e
        simp only [if_true, hs] at e
        exact hx _ _ _ _ _ _ (Option.some.inj e)
      · rw [Array.getElem?_setIfInBounds] at e
        simp [hs] at e
    · rw [Array.getElem?_setIfInBounds_ne hg] at e
      exact o.ng i k l c p fs cl e u
theorem GOk.push {Y a : Array GenState} {c : Code} (o : GOk Y a) : GOk Y (a.push (.fresh c)) := by
  refine ⟨by rw [Array.size_push]; exact Nat.le_succ_of_le o.size, fun i y e hy => ?_, fun i k l c' p fs cl e u => ?_⟩
  · have hi : i < Y.size := (Array.getElem?_eq_some_iff.mp e).1
    have hs := o.size
    rw [Array.getElem?_push, if_neg (by omega)]
    exact o.st i y e hy
  · rw [Array.getElem?_push] at e
    split at e
    · cases e
    · exact o.ng i k l c' p fs cl e u
theorem split_app : ∀ {a b : List Frame}, splitAtGen a = none → splitAtGen b = none → splitAtGen (a ++ b) = none
  | [], _, _, h => h
  | .gen .. :: _, _, h, _ => by cases h
  | .ret .. :: r, b, h, h2 => by
    simp only [splitAtGen, Option.map_eq_none_iff, List.cons_append] at h ⊢
    exact split_app h h2
theorem split_mem : ∀ {l pre rest : List Frame} {g : Nat} {k : GenResult → Sem PySem.Fin} {c : Code} {p : Pos}, splitAtGen l = some (pre, (g, k, c, p), rest) → splitAtGen pre = none ∧ (∃ lv, Frame.gen g k lv c p ∈ l) ∧ ∀ f ∈ rest, f ∈ l
  | [], _, _, _, _, _, _, h => by cases h
  | .gen g k lv c p :: r, _, _, _, _, _, _, h => by
    simp only [splitAtGen, Option.some.injEq, Prod.mk.injEq] at h
    obtain ⟨rfl, ⟨rfl, rfl, rfl, rfl⟩, rfl⟩ := h
    exact ⟨rfl, ⟨lv, List.mem_cons_self⟩, fun f hf => List.mem_cons_of_mem _ hf⟩
  | .ret k0 h0 g0 l0 c0 p0 kp :: r, pre, rest, g, k, c, p, h => by
    simp only [splitAtGen, Option.map_eq_some_iff] at h
    obtain ⟨⟨pre', x, rest'⟩, e, z⟩ := h
    simp only [Prod.mk.injEq] at z
    obtain ⟨rfl, rfl, rfl⟩ := z
    obtain ⟨h1, ⟨lv, h2⟩, h3⟩ := split_mem e
    refine ⟨?_, ⟨lv, List.mem_cons_of_mem _ h2⟩, fun f hf => List.mem_cons_of_mem _ (h3 f hf)⟩
    simp only [splitAtGen, h1, Option.map_none]
theorem none_fok {Y : Array GenState} {fs : List Frame} (h : splitAtGen fs = none) : FOk Y fs := fun g k l c p hm => by
  exfalso
  revert h
  induction fs with
  | nil => cases hm
  | cons f r ih =>
    intro h
    cases f with
    | gen => cases h
    | ret =>
      simp only [splitAtGen, Option.map_eq_none_iff] at h
      rcases List.mem_cons.mp hm with z | z
      · cases z
      · exact ih z h
theorem no_unsup {M : Model} {Γ : PySem.Ctx} {p : Pos} {t : Sem PySem.Fin} {fs : List Frame} {s s' : Shared} {e : End} (h : Runs M Γ p t fs s e s') : ∀ m, t ≠ .unsupported m := by
  induction h <;> intro m z <;> first | cases z | skip
  all_goals (rename_i z; exact z _ rfl)
theorem ns {x : GenState} (y : GenState) (hy : sus y = true) (hx : ∀ k l c p fs cl, x ≠ .suspended k l c p fs cl) : stk y ≠ x := fun z => by
  cases y with
  | suspended => exact hx _ _ _ _ _ _ z.symm
  | _ => cases hy
theorem stk_seen (y : GenState) : (stk y).seen = y.seen := by cases y <;> rfl
theorem GOk.look {Y a : Array GenState} {g : Nat} {x : GenState} (o : GOk Y a) (h : a[g]? = some x) : (put Y a)[g]? = some (sel Y g x) ∧ (sel Y g x).seen = x.seen := by
  refine ⟨by rw [put_get, h]; rfl, ?_⟩
  unfold sel
  split
  · rename_i y e
    cases hy : sus y with
    | false => rfl
    | true =>
      rw [o.st g y e hy] at h
      cases h
      exact (stk_seen y).symm
  · rfl
/-- who can be woken was not asleep before -/
theorem GOk.up {Y a : Array GenState} {g : Nat} {x : GenState} (o : GOk Y a) (h : a[g]? = some x) (hx : ∀ y, sus y = true → stk y ≠ x) : Up Y g := fun y e => by
  cases hy : sus y with
  | false => rfl
  | true =>
    rw [o.st g y e hy] at h
    exact absurd (Option.some.inj h) (hx y hy)
theorem GOk.upSel {Y a : Array GenState} {g : Nat} {x : GenState} (h : a[g]? = some x) (u : Up Y g) : (put Y a)[g]? = some x := by
  rw [put_get, h]
  exact congrArg some (sel_up u)
theorem pt_set {Y : Array GenState} {s : Shared} {g : Nat} {x : GenState} (u : Up Y g) : pt Y (s.setGen g x) = (pt Y s).setGen g x := by
  unfold pt Shared.setGen
  rw [put_set u]
theorem susSet {e : End} (h : EOk e) : ∀ k l c p fs cl, e.genState = .suspended k l c p fs cl → splitAtGen fs = none := fun k l c p fs cl z => by
  cases e with
  | ret r => cases z
  | susp => cases z; exact h
theorem runs_put {M : Model} {Γ : PySem.Ctx} {p : Pos} {t : Sem PySem.Fin} {fs : List Frame} {s s' : Shared} {e : End} (h : Runs M Γ p t fs s e s') :
    ∀ Y, GOk Y s.gens → FOk Y fs → Runs M Γ p t fs (pt Y s) e (pt Y s') ∧ GOk Y s'.gens ∧ EOk e := by
  induction h with
  | done => exact fun Y o f => ⟨.done, o, trivial⟩
  | raise => exact fun Y o f => ⟨.raise, o, trivial⟩
  | again hq _ ih => exact fun Y o f => let ⟨a, b, c⟩ := ih Y o f; ⟨.again hq a, b, c⟩
  | rule _ ih => exact fun Y o f => let ⟨a, b, c⟩ := ih Y o f; ⟨.rule a, b, c⟩
  | «at» _ ih => exact fun Y o f => let ⟨a, b, c⟩ := ih Y o f; ⟨.at a, b, c⟩
  | load ho _ ih => exact fun Y o f => let ⟨a, b, c⟩ := ih Y o f; ⟨.load ho a, b, c⟩
  | update ho _ ih => exact fun Y o f => let ⟨a, b, c⟩ := ih Y o f; ⟨.update ho a, b, c⟩
  | loadIfAlive _ ih => exact fun Y o f => let ⟨a, b, c⟩ := ih Y o f; ⟨.loadIfAlive a, b, c⟩
  | point _ ih => exact fun Y o f => let ⟨a, b, c⟩ := ih Y o f; ⟨.point a, b, c⟩
  | alloc _ ih => exact fun Y o f => let ⟨a, b, c⟩ := ih Y o f; ⟨.alloc a, b, c⟩
  | fresh _ ih => exact fun Y o f => let ⟨a, b, c⟩ := ih Y o f; ⟨.fresh a, b, c⟩
  | ask _ ih => exact fun Y o f => let ⟨a, b, c⟩ := ih Y o f; ⟨.ask a, b, c⟩
  | choose hn _ ih => exact fun Y o f => let ⟨a, b, c⟩ := ih Y o f; ⟨.choose hn a, b, c⟩
  | os _ ih => exact fun Y o f => let ⟨a, b, c⟩ := ih Y o f; ⟨.os a, b, c⟩
  | handled _ ih => exact fun Y o f => let ⟨a, b, c⟩ := ih Y o f; ⟨.handled a, b, c⟩
  | genState hg _ ih =>
    intro Y o f
    obtain ⟨a, b, c⟩ := ih Y o f
    obtain ⟨h1, h2⟩ := o.look hg
    exact ⟨.genState (st := _) h1 (by rw [h2]; exact a), b, c⟩
  | stack _ ih => exact fun Y o f => let ⟨a, b, c⟩ := ih Y o f; ⟨.stack a, b, c⟩
  | thread _ ih => exact fun Y o f => let ⟨a, b, c⟩ := ih Y o f; ⟨.thread a, b, c⟩
  | @newGen Γ p k s e s' c _ ih =>
    intro Y o f
    obtain ⟨a, b, d⟩ := ih Y o.push f
    refine ⟨.newGen ?_, b, d⟩
    have e1 : (pt Y s).gens.size = s.gens.size := put_size
    have e2 : pt Y { s with gens := s.gens.push (.fresh c) } = { pt Y s with gens := (pt Y s).gens.push (.fresh c) } := by
      unfold pt
      rw [put_push o.size]
    rw [e1, ← e2]
    exact a
  | call _ _ ih1 ih2 =>
    intro Y o f
    obtain ⟨a, b, _⟩ := ih1 Y o fun _ _ _ _ _ hm => by cases hm
    obtain ⟨a2, b2, c2⟩ := ih2 Y b f
    exact ⟨.call a a2, b2, c2⟩
  | callSusp _ ih =>
    intro Y o f
    obtain ⟨a, b, c⟩ := ih Y o fun _ _ _ _ _ hm => by cases hm
    exact ⟨.callSusp a, b, split_app c rfl⟩
  | yield => exact fun Y o f => ⟨.yield, o, rfl⟩
  | resumeFresh hg _ hq _ ih1 ih2 =>
    intro Y o f
    have u := o.up hg fun y hy => ns y hy (by intro _ _ _ _ _ _ z; cases z)
    obtain ⟨a, b, c⟩ := ih1 Y (o.set u fun _ _ _ _ _ _ z => by cases z) fun _ _ _ _ _ hm => by cases hm
    obtain ⟨a2, b2, c2⟩ := ih2 Y (b.set u (susSet c)) f
    rw [pt_set u] at a a2
    exact ⟨.resumeFresh (GOk.upSel hg u) a hq a2, b2, c2⟩
  | @resumeSuspended Γ p g r l k s k₀ l₀ c₀ p₀ fs cl e₁ s₁ e s' hg hr hq _ ih1 ih2 =>
    intro Y o f
    have u := o.up hg fun y hy z => by
      cases y with
      | suspended k' l' c' p' fs' cl' =>
        simp only [stk, GenState.suspended.injEq] at z
        obtain ⟨z, _⟩ := z
        subst z
        exact no_unsup hr _ rfl
      | _ => cases hy
    have hf := o.ng g _ _ _ _ _ _ hg u
    obtain ⟨a, b, c⟩ := ih1 Y (o.set u fun _ _ _ _ _ _ z => by cases z) (none_fok hf)
    obtain ⟨a2, b2, c2⟩ := ih2 Y (b.set u (susSet c)) f
    rw [pt_set u] at a a2
    exact ⟨.resumeSuspended (GOk.upSel hg u) a hq a2, b2, c2⟩
  | resumeJustStarted hg hv _ ih =>
    intro Y o f
    have u := o.up hg fun y hy => ns y hy (by intro _ _ _ _ _ _ z; cases z)
    obtain ⟨a, b, c⟩ := ih Y o f
    exact ⟨.resumeJustStarted (GOk.upSel hg u) hv a, b, c⟩
  | resumeThrowFresh hg _ ih =>
    intro Y o f
    have u := o.up hg fun y hy => ns y hy (by intro _ _ _ _ _ _ z; cases z)
    obtain ⟨a, b, c⟩ := ih Y (o.set u fun _ _ _ _ _ _ z => by cases z) f
    rw [pt_set u] at a
    exact ⟨.resumeThrowFresh (GOk.upSel hg u) a, b, c⟩
  | resumeRunning hg _ ih =>
    intro Y o f
    have u := o.up hg fun y hy => ns y hy (by intro _ _ _ _ _ _ z; cases z)
    obtain ⟨a, b, c⟩ := ih Y o f
    exact ⟨.resumeRunning (GOk.upSel hg u) a, b, c⟩
  | resumeFinished hg _ ih =>
    intro Y o f
    have u := o.up hg fun y hy => ns y hy (by intro _ _ _ _ _ _ z; cases z)
    obtain ⟨a, b, c⟩ := ih Y o f
    exact ⟨.resumeFinished (GOk.upSel hg u) a, b, c⟩
  | segRet _ _ ih1 ih2 =>
    intro Y o f
    obtain ⟨a, b, _⟩ := ih1 Y o fun _ _ _ _ _ hm => by cases hm
    obtain ⟨a2, b2, c2⟩ := ih2 Y b fun g k l c p hm => f g k l c p (List.mem_cons_of_mem _ hm)
    exact ⟨.segRet a a2, b2, c2⟩
  | segGen _ _ ih1 ih2 =>
    intro Y o f
    have u := f _ _ _ _ _ List.mem_cons_self
    obtain ⟨a, b, _⟩ := ih1 Y o fun _ _ _ _ _ hm => by cases hm
    obtain ⟨a2, b2, c2⟩ := ih2 Y (b.set u fun _ _ _ _ _ _ z => by cases z) fun g k l c p hm => f g k l c p (List.mem_cons_of_mem _ hm)
    rw [pt_set u] at a2
    exact ⟨.segGen a a2, b2, c2⟩
  | segSuspOut hs _ ih =>
    intro Y o f
    obtain ⟨a, b, c⟩ := ih Y o fun _ _ _ _ _ hm => by cases hm
    exact ⟨.segSuspOut hs a, b, split_app c hs⟩
  | segSuspGen hs _ hq _ ih1 ih2 =>
    intro Y o f
    obtain ⟨h1, ⟨lv, h2⟩, h3⟩ := split_mem hs
    have u := f _ _ _ _ _ h2
    obtain ⟨a, b, c⟩ := ih1 Y o fun _ _ _ _ _ hm => by cases hm
    obtain ⟨a2, b2, c2⟩ := ih2 Y (b.set u (susSet (e := .susp _ _ _ _ _ _ _) (split_app c h1))) fun g k l c p hm => f g k l c p (h3 _ hm)
    rw [pt_set u] at a2
    exact ⟨.segSuspGen hs a hq a2, b2, c2⟩

theorem wakes_put {M : Model} {Γ : PySem.Ctx} {p : Pos} {g : Nat} {r : Resume} {s s' : Shared} {res : GenResult} {Y : Array GenState} (o : GOk Y s.gens) (hw : Wakes M Γ p g r s res s') : Wakes M Γ p g r (pt Y s) res (pt Y s') ∧ GOk Y s'.gens := by
  unfold Wakes at hw ⊢
  cases hg : s.gens[g]? with
  | none => rw [hg] at hw; exact hw.elim
  | some x =>
    rw [hg] at hw
    cases x with
    | fresh c =>
      have u := o.up hg fun y hy => ns y hy (by intro _ _ _ _ _ _ z; cases z)
      rw [show (pt Y s).gens[g]? = some (.fresh c) from GOk.upSel hg u]
      cases r with
      | send v =>
        by_cases hv : v = .none
        · subst hv
          obtain ⟨e₁, s₁, hr, hq, hres, rfl⟩ := hw
          obtain ⟨a, b, c⟩ := runs_put hr Y (o.set u fun _ _ _ _ _ _ z => by cases z) fun _ _ _ _ _ hm => by cases hm
          rw [pt_set u] at a
          exact ⟨⟨e₁, _, a, hq, hres, pt_set u⟩, b.set u (susSet c)⟩
        · have hw : res = .justStarted ∧ s' = s := by
            cases v <;> first | exact absurd rfl hv | exact hw
          obtain ⟨h1, rfl⟩ := hw
          refine ⟨?_, o⟩
          cases v <;> first | exact absurd rfl hv | exact ⟨h1, rfl⟩
      | throw x =>
        obtain ⟨h1, rfl⟩ := hw
        exact ⟨⟨h1, pt_set u⟩, o.set u fun _ _ _ _ _ _ z => by cases z⟩
    | suspended k₀ l₀ c₀ p₀ fs cl =>
      obtain ⟨e₁, s₁, hr, hq, hres, rfl⟩ := hw
      have u := o.up hg fun y hy z => by
        cases y with
        | suspended k' l' c' p' fs' cl' =>
          simp only [stk, GenState.suspended.injEq] at z
          obtain ⟨z, _⟩ := z
          subst z
          exact no_unsup hr _ rfl
        | _ => cases hy
      rw [show (pt Y s).gens[g]? = some (.suspended k₀ l₀ c₀ p₀ fs cl) from GOk.upSel hg u]
      obtain ⟨a, b, c⟩ := runs_put hr Y (o.set u fun _ _ _ _ _ _ z => by cases z) (none_fok (o.ng g _ _ _ _ _ _ hg u))
      rw [pt_set u] at a
      exact ⟨⟨e₁, _, a, hq, hres, pt_set u⟩, b.set u (susSet c)⟩
    | running =>
      have u := o.up hg fun y hy => ns y hy (by intro _ _ _ _ _ _ z; cases z)
      rw [show (pt Y s).gens[g]? = some .running from GOk.upSel hg u]
      obtain ⟨h1, rfl⟩ := hw
      exact ⟨⟨h1, rfl⟩, o⟩
    | finished =>
      have u := o.up hg fun y hy => ns y hy (by intro _ _ _ _ _ _ z; cases z)
      rw [show (pt Y s).gens[g]? = some .finished from GOk.upSel hg u]
      obtain ⟨h1, rfl⟩ := hw
      exact ⟨⟨h1, rfl⟩, o⟩
theorem wp_put {α : Type} (M : Model) (Γ : PySem.Ctx) (t : Sem α) : ∀ (Y : Array GenState) (Q : α → Pos → Shared → Prop) (E : Value → Pos → Shared → Prop) (p : Pos) (s : Shared), GOk Y s.gens → wp M Γ t Q E p s →
    wp M Γ t (fun a p' s' => ∃ s2, s' = pt Y s2 ∧ GOk Y s2.gens ∧ Q a p' s2) (fun e p' s' => ∃ s2, s' = pt Y s2 ∧ GOk Y s2.gens ∧ E e p' s2) p (pt Y s) := by
  induction t with
  | pure a => exact fun Y Q E p s o h => ⟨s, rfl, o, h⟩
  | raise e => exact fun Y Q E p s o h => ⟨s, rfl, o, h⟩
  | unsupported _ => exact fun Y Q E p s _ h => h
  | finish _ => exact fun Y Q E p s _ h => h
  | rule _ k ih => exact fun Y Q E p s o h => ih () Y Q E p s o h
  | «at» p' k ih => exact fun Y Q E p s o h => ih () Y Q E p' s o h
  | load a _ k ih => exact fun Y Q E p s o ⟨ob, ho, h⟩ => ⟨ob, ho, ih ob Y Q E p s o h⟩
  | update a _ f k ih => exact fun Y Q E p s o h => ⟨h.1, ih () Y Q E p { s with heap := s.heap.update a f } o h.2⟩
  | loadIfAlive a k ih => exact fun Y Q E p s o h => ih _ Y Q E p s o h
  | point _ k ih => exact fun Y Q E p s o h => ih () Y Q E p s o h
  | register _ _ => exact fun Y Q E p s _ h => h
  | alloc ob k ih => exact fun Y Q E p s o h => ih _ Y Q E p { s with heap := s.heap.push ob } o h
  | fresh k ih => exact fun Y Q E p s o h => ih _ Y Q E p { s with toks := s.toks + 1 } o h
  | ask k ih => exact fun Y Q E p s o h => ih _ Y Q E p s o h
  | choose src m k ih => exact fun Y Q E p s o h => ⟨h.1, ih _ Y Q E p { s with drawn := s.drawn.bump src } o h.2⟩
  | os q _ k ih => exact fun Y Q E p s o h => ih _ Y Q E p { s with os := (Os.step s.os q).1 } o h
  | call c hd _ _ k ih =>
    rintro Y Q E p s o ⟨r, s', hr, h⟩
    obtain ⟨a, b, _⟩ := runs_put hr Y o fun _ _ _ _ _ hm => by cases hm
    exact ⟨r, pt Y s', a, ih r Y Q E p s' b h⟩
  | handled own k ih => exact fun Y Q E p s o h => ih _ Y Q E p s o h
  | genState g k ih =>
    rintro Y Q E p s o ⟨st, hs, h⟩
    obtain ⟨h1, h2⟩ := o.look hs
    exact ⟨_, h1, by rw [h2]; exact ih _ Y Q E p s o h⟩
  | newGen c k ih =>
    intro Y Q E p s o h
    have e1 : (pt Y s).gens.size = s.gens.size := put_size
    have e2 : pt Y { s with gens := s.gens.push (.fresh c) } = { pt Y s with gens := (pt Y s).gens.push (.fresh c) } := by
      unfold pt
      rw [put_push o.size]
    show wp M Γ (k (pt Y s).gens.size) _ _ p { pt Y s with gens := (pt Y s).gens.push (.fresh c) }
    rw [e1, ← e2]
    exact ih _ Y Q E p { s with gens := s.gens.push (.fresh c) } o.push h
  | resume g r _ k ih =>
    rintro Y Q E p s o ⟨res, s', hw, h⟩
    have main := wakes_put o hw
    exact ⟨res, pt Y s', main.1, ih res Y Q E p s' main.2 h⟩
  | yield _ _ _ _ => exact fun Y Q E p s _ h => h
  | stack k ih => exact fun Y Q E p s o h => ih _ Y Q E p s o h
  | fork _ _ => exact fun Y Q E p s _ h => h
  | thread k ih => exact fun Y Q E p s o h => ih _ Y Q E p s o h
  | await _ _ _ _ _ => exact fun Y Q E p s _ h => h
/-! a piece that holds with every sleeper shut -/
def shut (s : Shared) : Shared := { s with gens := s.gens.map stk }
theorem shut_ok (s : Shared) : GOk s.gens (shut s).gens := by
  refine ⟨by unfold shut; simp, fun i y e _ => ?_, fun i k l c p fs cl e u => ?_⟩
  · unfold shut
    rw [Array.getElem?_map, e]
    rfl
  · unfold shut at e
    rw [Array.getElem?_map, Option.map_eq_some_iff] at e
    obtain ⟨y, e1, e2⟩ := e
    have := u y e1
    cases y with
    | suspended => cases this
    | _ => cases e2
theorem pt_shut (s : Shared) : pt s.gens (shut s) = s := by
  have : put s.gens (s.gens.map stk) = s.gens := by
    refine Array.ext_getElem? fun i => ?_
    rw [put_get, Array.getElem?_map]
    cases e : s.gens[i]? with
    | none => rfl
    | some y =>
      show some (sel s.gens i (stk y)) = some y
      unfold sel
      rw [e]
      cases y <;> rfl
  unfold pt shut
  rw [this]
/-- who sleeps in s sleeps in s' as in s -/
def Slp (s s' : Shared) : Prop := ∀ (g : Nat) y, s.gens[g]? = some y → sus y = true → s'.gens[g]? = some y
theorem GOk.slp {s s2 : Shared} (o : GOk s.gens s2.gens) : Slp s (pt s.gens s2) := fun g y e h => by
  show (put s.gens s2.gens)[g]? = _
  rw [put_get, o.st g y e h]
  show some (sel s.gens g (stk y)) = some y
  unfold sel
  rw [e]
  show some (bif sus y then y else _) = _
  rw [h]
  rfl
theorem bare_stk {a : Array GenState} (h : AllBare a) : AllBare (a.map stk) := fun y hy => by
  obtain ⟨x, hx, rfl⟩ := Array.mem_map.mp hy
  have := h x hx
  cases x <;> exact this
theorem bare_put {Y a : Array GenState} (hY : AllBare Y) (h : AllBare a) : AllBare (put Y a) := fun y hy => by
  obtain ⟨i, hi, e⟩ := Array.mem_iff_getElem.mp hy
  have e2 : (put Y a)[i]? = some y := by rw [Array.getElem?_eq_getElem hi, e]
  rw [put_get, Option.map_eq_some_iff] at e2
  obtain ⟨x, e3, e4⟩ := e2
  unfold sel at e4
  split at e4
  · rename_i z ez
    cases hz : sus z with
    | true => rw [hz] at e4; exact e4 ▸ hY z (Array.mem_of_getElem? ez)
    | false => rw [hz] at e4; exact e4 ▸ h x (Array.mem_of_getElem? e3)
  · exact e4 ▸ h x (Array.mem_of_getElem? e3)
theorem wpAny_slp {α : Type} {M : Model} {A : Around} {t : Sem α} {Q : α → Shared → Prop} {E : Value → Shared → Prop} {s : Shared} (h : wpAny M A t Q E (shut s)) :
    wpAny M A t (fun a s' => ∃ s2, s' = pt s.gens s2 ∧ Slp s s' ∧ Q a s2) (fun e s' => ∃ s2, s' = pt s.gens s2 ∧ Slp s s' ∧ E e s2) s := fun Γ p hΓ => by
  have z := wp_put M Γ t s.gens _ _ p (shut s) (shut_ok s) (h Γ p hΓ)
  rw [pt_shut] at z
  refine Sem.wp_mono M Γ t ?_ ?_ p s z
  · rintro a p' s' ⟨s2, rfl, o, q⟩
    exact ⟨s2, rfl, o.slp, q⟩
  · rintro e p' s' ⟨s2, rfl, o, q⟩
    exact ⟨s2, rfl, o.slp, q⟩
end Gk

/-! a generator walked by a for: its body, segment by segment. Each waking starts from the consumer's heap anew -/
namespace Gg
open PySem PySem.Spec PyProof.Rows GenW L2
/-- the generator's data: Hg: what stood at its making and what it leans on; n, It: how many items, and which -/
structure GD where
  P : Program
  w : World
  K : PySem.W.Frag
  mg : Str → Option Value
  base : Heap
  N : List Str
  qual : Str
  scope : Scope
  f : Addr
  cd : Value
  A : Around
  outer : List Env
  L : Addr
  Hg : Hp
  n : Nat
  It : Nat → V → Hp → Prop
abbrev GD.env (G : GD) : Env := envOfC G.qual G.scope G.L G.f G.cd
def trunc (h : Heap) (L : Nat) : Heap := { h with objs := h.objs.extract 0 L }
theorem trunc_get {h : Heap} {L b : Nat} : (trunc h L).get? b = if b < L then h.get? b else none := by
  unfold trunc Heap.get?
  by_cases hb : b < L
  · rw [if_pos hb]
    have : (h.objs.extract 0 L)[b]? = h.objs[b]? := by
      rw [Array.getElem?_extract]
      by_cases h2 : b < h.objs.size
      · rw [if_pos (by omega), Nat.zero_add]
      · rw [if_neg (by omega), Array.getElem?_eq_none (by omega)]
    simp only [this]
  · rw [if_neg hb]
    have : (h.objs.extract 0 L)[b]? = none := by
      rw [Array.getElem?_extract, if_neg (by omega)]
    simp only [this]
theorem trunc_size {h : Heap} {L : Nat} : (trunc h L).objs.size ≤ L := by
  unfold trunc
  simp only [Array.size_extract]
  omega
theorem trunc_lt {h : Heap} {L b : Nat} {o : Obj} (e : (trunc h L).get? b = some o) : b < L ∧ h.get? b = some o := by
  rw [trunc_get] at e
  split at e
  · exact ⟨‹_›, e⟩
  · cases e
theorem trunc_of {h : Heap} {L b : Nat} {o : Obj} (hb : b < L) (e : h.get? b = some o) : (trunc h L).get? b = some o := by
  rw [trunc_get, if_pos hb]; exact e
/-- the heap of a waking: beside Hg all that is younger than the frame stands as it is -/
def Hw (G : GD) (s : Shared) : Hp := fun b => if G.L < b then (s.heap.get? b).map (fun o => .ext fun h => h.get? b = some o) else G.Hg b
def GD.X (G : GD) (s : Shared) : Cx where
  prog := G.P
  w := G.w
  K := G.K
  mg := G.mg
  base := G.base
  A := G.A.deeper G.env
  N := G.N
  s_0 := { s with heap := trunc s.heap G.L }
  H_0 := G.Hg
  env := G.env
  outer := G.outer
  stack := G.env :: G.outer
  ex := []
  fn := fun _ => true
  calm := true
  pn := []
  xe := fun _ _ => False
structure GOk (G : GD) : Prop where
  hd : G.A.handled = none
  kind : G.scope.kind = .function
  nk : ∀ x, G.scope.names.lookup x ≠ some .cell ∧ G.scope.names.lookup x ≠ some .free
  nc : cellsFrom (G.L + 1) G.scope.names [] = []
  bnd : ∀ b o, G.Hg b = some o → b < G.L
  frL : ∀ b ∈ frs G.outer, b < G.L
  bL : G.base.objs.size ≤ G.L
/-- it may be woken -/
structure Wk (G : GD) (oL : Obj) (s : Shared) : Prop where
  env : Env0 G.P G.w G.K G.mg G.base G.A G.outer s G.Hg
  own : s.heap.get? G.L = some oL
def LocL (G : GD) (oL : Obj) (σ : L2.St) : Prop := σ.length = G.N.length ∧ ∃ m, (∀ h : Heap, h.get? G.L = some oL → h.Ns G.L m) ∧
  ∀ (i : Nat) (x : Str) (v : V), G.N[i]? = some x → σ[i]? = some (some v) → Vis G.scope x → ∃ u, RelV v u ∧ G.env.kindOf x = some .local ∧ m x = some u
theorem funs_trunc {h base : Heap} {L : Nat} : ∀ {l : List Env}, (∀ b ∈ frs l, b < L) → h.FunFrames base l → (trunc h L).FunFrames base l
  | [], _, _ => trivial
  | env :: r, hl, ⟨hk, ⟨b, o, hf, hn, ho, hd⟩, hr⟩ => by
    have hb : b < L := hl b (by unfold frs; rw [List.filterMap_cons, hf]; exact List.mem_cons_self)
    refine ⟨hk, ⟨b, o, hf, hn, trunc_of hb ho, hd⟩, funs_trunc (fun c hc => hl c ?_) hr⟩
    unfold frs at hc ⊢
    rw [List.filterMap_cons, hf]
    exact List.mem_cons_of_mem _ hc
theorem hw_lt {G : GD} (ok : GOk G) {s : Shared} {b : Addr} {o : HO} (e : G.Hg b = some o) : Hw G s b = some o := by
  unfold Hw
  rw [if_neg (Nat.not_lt.mpr (Nat.le_of_lt (ok.bnd b o e)))]
  exact e
theorem hw_same {G : GD} (ok : GOk G) {s : Shared} : Same G.Hg (Hw G s) := fun b o e => hw_lt ok e
theorem hw_cases {G : GD} {s : Shared} {b : Addr} {o : HO} (e : Hw G s b = some o) : (G.L < b ∧ ∃ u, s.heap.get? b = some u ∧ o = .ext fun h => h.get? b = some u) ∨ (¬ G.L < b ∧ G.Hg b = some o) := by
  unfold Hw at e
  split at e
  · rw [Option.map_eq_some_iff] at e
    obtain ⟨u, h1, h2⟩ := e
    exact .inl ⟨‹_›, u, h1, h2.symm⟩
  · exact .inr ⟨‹_›, e⟩
theorem wake {G : GD} {oL : Obj} {s : Shared} {σ : L2.St} (ok : GOk G) (W : Wk G oL s) (lc : LocL G oL σ) : Inv (G.X s) [] σ (Hw G s) s := by
  obtain ⟨hl, m, hm, hv⟩ := lc
  have e0 := W.env
  have hL : G.Hg G.L = none := by
    cases e : G.Hg G.L with
    | none => rfl
    | some o => exact absurd (ok.bnd _ _ e) (Nat.lt_irrefl _)
  have nA : ∀ b : Addr, b ∉ (G.X s).ex := fun b z => absurd (show b ∈ ([] : List Addr) from z) (by simp)
  have nC : ∀ (x : Str) (c : Addr), (G.X s).env.cells.lookup x = some c → False := fun x c e => by
    have : (cellsFrom (G.L + 1) G.scope.names []).lookup x = some c := e
    rw [ok.nc] at this
    cases this
  have ld := trunc_size (h := s.heap) (L := G.L)
  refine ⟨⟨e0.mod, ok.kind, rfl, rfl, ld, fun x y c e _ => (nC x c e).elim, fun x hx => ?_, fun x c _ e => (nC x c e).elim, fun _ => ok.hd, Around.frames_deeper e0.frames, .inr ⟨rfl, rfl⟩, fun b z => absurd z (nA b), fun b o e => ?_, ?_, fun b _ _ => nA b, fun b z => absurd z (nA b), funs_trunc ok.frL e0.funs, e0.frf⟩,
    rfl, e0.bare, ?_, ⟨m, hm _ W.own, fun i x v h1 h2 h3 => ?_⟩, fun x c e => (nC x c e).elim, ?_, fun x c e => (nC x c e).elim, fun p hp => absurd (show p ∈ ([] : List (Addr × Obj)) from hp) (by simp), fun b o e => ?_, hl⟩
  · rcases hx with hx | hx
    · exact absurd hx (ok.nk x).1
    · exact absurd hx (ok.nk x).2
  · obtain ⟨h1, h2⟩ := e0.bs b o e
    exact ⟨trunc_of (Nat.lt_of_lt_of_le (Heap.lt_size e) ok.bL) h1, h2⟩
  · show G.base.objs.size ≤ (trunc s.heap G.L).objs.size
    have h1 := e0.bsz
    have h2 := ok.bL
    unfold trunc
    simp only [Array.size_extract]
    omega
  · refine ⟨fun b o q n _ _ => (trunc_lt q).2, fun b o q _ _ _ => ⟨o.slots, (trunc_lt q).2⟩, fun b o q n _ => ?_, fun b o q _ => ⟨o, (trunc_lt q).2⟩, fun b xs e => hw_lt ok e, fun b o u e => hw_lt ok e, fun b ps e => ⟨#[], by rw [hw_lt ok e]; simp⟩⟩
    unfold Hw
    rw [if_neg (Nat.not_lt.mpr (Nat.le_of_lt (trunc_lt q).1))]
    exact n
  · obtain ⟨u, r, k, e⟩ := hv i x v h1 h2 h3
    exact ⟨u, r, .inl ⟨k, e⟩⟩
  · show Hw G s G.L = none
    unfold Hw
    rw [if_neg (Nat.lt_irrefl _)]
    exact hL
  · rcases hw_cases e with ⟨h1, u, h2, rfl⟩ | ⟨_, h2⟩
    · exact ⟨h2, ⟨u, h2⟩, fun h1 h2 a b => b _ a⟩
    · exact (e0.hok b o h2).stay (fun _ _ _ y => y) (fun c y => hw_lt ok y) fun c xs y => hw_lt ok y
/-- a segment has ended -/
structure GEnd (G : GD) (s0 : Shared) (H : Hp) (s : Shared) : Prop where
  os : s.os = s0.os
  bare : AllBare s.gens
  un : Un (frs G.outer) [] G.Hg H (trunc s0.heap G.L) s.heap
  hok : HOk G.P G.w H s.heap
  lim : s.heap.NoLimit
  same : Same (Hw G s0) H
  fr : H G.L = none
theorem gend {G : GD} {s0 s : Shared} {σ : L2.St} {H : Hp} (I : Inv (G.X s0) [] σ H s) (e : Same (Hw G s0) H) : GEnd G s0 H s := ⟨I.os, I.bare, I.base, I.hok, I.nolimit, e, I.free⟩
theorem locL {G : GD} (ok : GOk G) {s0 s : Shared} {σ : L2.St} {H : Hp} (I : Inv (G.X s0) [] σ H s) : ∃ oL, s.heap.get? G.L = some oL ∧ (∀ v, oL.data ≠ .cell v) ∧ LocL G oL σ := by
  obtain ⟨m, ⟨o, es, ep, ho, r⟩, hv⟩ := I.loc
  refine ⟨o, ho, fun v q => (by rw [r.1] at q; cases q), I.len, m, fun h e => ⟨o, es, ep, e, r⟩, fun i x v h1 h2 h3 => ?_⟩
  obtain ⟨u, ru, q⟩ := hv i x v h1 h2 h3
  rcases q with ⟨k, e⟩ | ⟨k, c, e, _⟩
  · exact ⟨u, ru, k, e⟩
  · have : (cellsFrom (G.L + 1) G.scope.names []).lookup x = some c := e
    rw [ok.nc] at this
    cases this
def GY (G : GD) : Protocol := fun m s0 v s kap => ∃ x H j oL, m + 1 + j = G.n ∧ RelV x v ∧ GEnd G s0 H s ∧ G.It j x H ∧ s.heap.get? G.L = some oL ∧ (∀ v, oL.data ≠ .cell v) ∧ ∀ s', Wk G oL s' → kap (.send .none) s'
def GF (G : GD) (m : Nat) (s0 s : Shared) : Prop := m = 0 ∧ ∃ H, GEnd G s0 H s
def GR (G : GD) : GenEnd := fun m s0 r s => ((r = .ok (.ret .none) ∨ r = .ok .next) ∧ GF G m s0 s) ∨ ∃ e, r = .error e ∧ False
/-- what is wanted behind a statement: the items that are out, the heap of the waking, the slots, the heap -/
structure GE where
  nx : Nat → Hp → L2.St → Hp → Prop
  rt : Nat → Hp → VK := fun _ _ _ _ => False
  bk : Nat → Hp → L2.St → Hp → Prop := fun _ _ _ _ => False
  ct : Nat → Hp → L2.St → Hp → Prop := fun _ _ _ _ => False
abbrev GT := GE → Nat → Hp → L2.St → Hp → Prop
def GE.at (D : GE) (j : Nat) (H0 : Hp) : Ends := { nx := D.nx j H0, rt := D.rt j H0, bk := D.bk j H0, ct := D.ct j H0 }
structure GC (G : GD) (A : Around) (c : Code) (fs : List Frame) (gd : Bool → Bool) : Prop where
  over : A.over c fs = G.A.deeper G.env
  split : splitAtGen fs = none
  guard : fs.any Frame.guarded = false
  gd : gd false = false
def GK (G : GD) (A : Around) (c : Code) (fs : List Frame) (Kf : Flow → Sem PySem.Fin) (D : GE) : Prop :=
  ∀ (m j : Nat) (s0 s : Shared) (fl : Flow), m + j = G.n → SP (G.X s0) [] (D.at j (Hw G s0)) fl s → Seg (model G.P G.w) A (GR G) (GY G) m s0 c (Kf fl) fs s
structure GS (G : GD) (st : Stmt) (t : GT) : Prop where
  run : ∀ (A : Around) (m j : Nat) (s0 : Shared) (c : Code) (fs : List Frame) (Kf : Flow → Sem PySem.Fin) (J : Value → Sem PySem.Fin) (gd : Bool → Bool) (lv : List Value → List Value) (s : Shared) (σ : L2.St) (H : Hp) (D : GE),
    GC G A c fs gd → m + j = G.n → GK G A c fs Kf D → Inv (G.X s0) [] σ H s → t D j (Hw G s0) σ H → Seg (model G.P G.w) A (GR G) (GY G) m s0 c ((exec st G.env).wrap Kf J gd lv) fs s
structure GSs (G : GD) (sts : List Stmt) (t : GT) : Prop where
  run : ∀ (A : Around) (m j : Nat) (s0 : Shared) (c : Code) (fs : List Frame) (Kf : Flow → Sem PySem.Fin) (J : Value → Sem PySem.Fin) (gd : Bool → Bool) (lv : List Value → List Value) (s : Shared) (σ : L2.St) (H : Hp) (D : GE),
    GC G A c fs gd → m + j = G.n → GK G A c fs Kf D → Inv (G.X s0) [] σ H s → t D j (Hw G s0) σ H → Seg (model G.P G.w) A (GR G) (GY G) m s0 c ((execs sts G.env).wrap Kf J gd lv) fs s
section
variable {G : GD} {st : Stmt} {rest : List Stmt}
def gPlain (t : TS) : GT := fun D j H0 σ H => t (D.at j H0) σ H
/-- a statement that hands out nothing -/
theorem gs_plain {t : TS} (h : ∀ s0, PS (G.X s0) st t) : GS G st (gPlain t) :=
  ⟨fun A m j s0 c fs Kf J gd lv s σ H D g hn k I ht => by
    refine seg_wrap ?_
    rw [g.over]
    exact wpAny_mono ((h s0).run [] s σ H _ I ht) (fun fl s' hs => k m j s0 s' fl hn hs) fun _ _ z => z.elim⟩
def gNil : GT := fun D j H0 σ H => D.nx j H0 σ H
theorem gss_nil : GSs G [] gNil := ⟨fun A m j s0 c fs Kf J gd lv s σ H D g hn k I ht => seg_execs_nil (k m j s0 s .next hn ⟨σ, H, I, ht⟩)⟩
def gThen (t u : GT) : GT := fun D j H0 σ H => t { D with nx := fun j' H0' σ' H' => u D j' H0' σ' H' } j H0 σ H
theorem gss_cons {t u : GT} (a : GS G st t) (b : GSs G rest u) : GSs G (st :: rest) (gThen t u) :=
  ⟨fun A m j s0 c fs Kf J gd lv s σ H D g hn k I ht => by
    refine seg_execs_cons (a.run A m j s0 c fs _ J gd lv s σ H { D with nx := fun j' H0' σ' H' => u D j' H0' σ' H' } g hn (fun m' j' s0' s' fl hn' hs => ?_) I ht)
    cases fl with
    | next =>
      obtain ⟨σ', H', I', q⟩ := hs
      exact b.run A m' j' s0' c fs Kf J gd lv s' σ' H' D g hn' k I' q
    | brk => exact k m' j' s0' s' .brk hn' hs
    | cont => exact k m' j' s0' s' .cont hn' hs
    | ret u => exact k m' j' s0' s' (.ret u) hn' hs⟩
/-- .. with what is known between them -/
def gCut (t u : GT) : GT := fun D j H0 σ H => ∃ R : Nat → Hp → L2.St → Hp → Prop, t { D with nx := R } j H0 σ H ∧ ∀ j H0 σ H, R j H0 σ H → u D j H0 σ H
theorem gss_cut {t u : GT} (a : GS G st t) (b : GSs G rest u) : GSs G (st :: rest) (gCut t u) :=
  ⟨fun A m j s0 c fs Kf J gd lv s σ H D g hn k I ⟨R, ht, hu⟩ => by
    refine seg_execs_cons (a.run A m j s0 c fs _ J gd lv s σ H { D with nx := R } g hn (fun m' j' s0' s' fl hn' hs => ?_) I ht)
    cases fl with
    | next =>
      obtain ⟨σ', H', I', q⟩ := hs
      exact b.run A m' j' s0' c fs Kf J gd lv s' σ' H' D g hn' k I' (hu _ _ _ _ q)
    | brk => exact k m' j' s0' s' .brk hn' hs
    | cont => exact k m' j' s0' s' .cont hn' hs
    | ret u => exact k m' j' s0' s' (.ret u) hn' hs⟩
def gYield (G : GD) (te : TE) : GT := fun D j H0 σ H => j < G.n ∧ te σ H fun x H1 => G.It j x H1 ∧ Same H0 H1 ∧ ∀ H2, Same G.Hg H2 → D.nx (j + 1) H2 σ H2
theorem gs_yield {e : Expr} {te : TE} {yp pos : Pos} (ok : GOk G) (he : ∀ s0, PE (G.X s0) e te) (hco : G.scope.isCoroutine = false := by rfl) (hi : interactive G.env = false := by rfl) : GS G (.Expr (.Yield (some e) yp) pos) (gYield G te) :=
  ⟨fun A m j s0 c fs Kf J gd lv s σ H D g hn k I ht => by
    obtain ⟨hj, ht⟩ := ht
    obtain ⟨m, rfl⟩ : ∃ l, m = l + 1 := ⟨m - 1, by omega⟩
    refine seg_Expr_Yield g.split g.gd g.guard ?_ hco hi
    rw [g.over]
    refine wpAny_mono ((he s0).run [] s σ H _ I ht) (fun v s' hv => ?_) fun _ _ z => z.elim
    obtain ⟨x, H1, I1, rv, hit, hsm, q⟩ := hv
    obtain ⟨oL, h1, h0, h2⟩ := locL ok I1
    intro kap hk
    exact ⟨x, H1, j, oL, by omega, rv, gend I1 hsm, hit, h1, h0, fun s2 W => hk .none s2 (k m (j + 1) s2 s2 .next (by omega) ⟨σ, Hw G s2, wake ok W h2, q _ (hw_same ok)⟩)⟩⟩
def gWhile (tc : TT) (tb : GT) : GT := fun D j H0 σ H => ∃ W : Nat → Nat → Hp → L2.St → Hp → Prop, (∃ q, W q j H0 σ H) ∧ ∀ q j H0 σ H, W q j H0 σ H →
  tc σ H fun b H1 => if b = true then tb { D with nx := fun j' H0' σ' H' => ∃ q', q' < q ∧ W q' j' H0' σ' H', ct := fun j' H0' σ' H' => ∃ q', q' < q ∧ W q' j' H0' σ' H', bk := D.nx } j H0 σ H1 else D.nx j H0 σ H1
theorem gc_in {A : Around} {c c2 : Code} {fs : List Frame} {gd : Bool → Bool} {kr : Result → Sem PySem.Fin} {l kp : List Value} {p : Pos} (g : GC G A c fs gd) (h1 : c2.weight = 0) (h2 : c2.cUnits = 0) : GC G A c2 (.ret kr none (gd false) l c p kp :: fs) id where
  over := (over_loop h1 h2).trans g.over
  split := by
    show Option.map _ (splitAtGen fs) = none
    rw [g.split] <;> rfl
  guard := by
    show (gd false || fs.any Frame.guarded) = false
    rw [g.gd, g.guard] <;> rfl
  gd := rfl
theorem gs_while {test : Expr} {body : List Stmt} {pos : Pos} {tc : TT} {tb : GT} (hc : ∀ s0, PT (G.X s0) test tc) (hb : GSs G body tb) : GS G (.While test body [] pos) (gWhile tc tb) :=
  ⟨fun A m j s0 c fs Kf J gd lv s σ H D g hn k I ht => by
    obtain ⟨W, ⟨q0, w0⟩, turn⟩ := ht
    refine seg_While fun p => ?_
    have gi := fun (kr : Result → Sem PySem.Fin) kp => gc_in (kr := kr) (c2 := .whileLoop test body [] G.env) (l := lv []) (kp := kp) (p := p) g rfl rfl
    have loop : ∀ (kr : Result → Sem PySem.Fin), (∀ fl, kr (.ok fl) = Kf fl) → ∀ (q m j : Nat) (s0 s : Shared) (σ : L2.St) (H : Hp), m + j = G.n → W q j (Hw G s0) σ H → Inv (G.X s0) [] σ H s →
        Seg (model G.P G.w) A (GR G) (GY G) m s0 (.whileLoop test body [] G.env) ((model G.P G.w).den (.whileLoop test body [] G.env)) (.ret kr none (gd false) (lv []) c p [] :: fs) s := by
      intro kr hkn q
      induction q using Nat.strongRecOn with
      | ind q ih =>
        intro m j s0 s σ H hn w I
        refine seg_whileLoop ?_
        rw [(gi kr []).over]
        refine wpAny_mono ((hc s0).run [] s σ H _ I (turn q j _ σ H w)) (fun b s' hb' => ?_) fun _ _ z => z.elim
        obtain ⟨H2, I2, z⟩ := hb'
        cases b with
        | true =>
          rw [if_pos rfl] at z ⊢
          refine hb.run A m j s0 _ _ _ _ id id s' σ H2 _ (gi kr []) hn (fun m' j' s0' s3 fl hn' hs => ?_) I2 z
          cases fl with
          | next =>
            obtain ⟨σ3, H3, I3, q', hq, w3⟩ := hs
            exact seg_again rfl (ih q' hq m' j' s0' s3 σ3 H3 hn' w3 I3)
          | cont =>
            obtain ⟨σ3, H3, I3, q', hq, w3⟩ := hs
            exact seg_again rfl (ih q' hq m' j' s0' s3 σ3 H3 hn' w3 I3)
          | brk => exact seg_leaf (.ok .next) (by rw [hkn]; exact k m' j' s0' s3 .next hn' hs)
          | ret v => exact seg_leaf (.ok (.ret v)) (by rw [hkn]; exact k m' j' s0' s3 (.ret v) hn' hs)
        | false =>
          rw [if_neg Bool.false_ne_true] at z ⊢
          exact seg_execs_nil (seg_leaf (.ok .next) (by rw [hkn]; exact k m j s0 s' .next hn ⟨σ, H2, I2, z⟩))
    exact loop _ (fun fl => rfl) q0 m j s0 s σ H hn w0 I⟩
end
end Gg

namespace Gg
open PySem PySem.Spec PyProof.Rows GenW L2
open Gk (sus Slp pt shut wpAny_slp)
open Sem (wp)
/-! ### the consumer's heap, cut to what a generator leans on: tuples, instances, their own dicts -/
def cl (H : Hp) : Hp := fun b => match H b with
  | some (.tup xs) => some (.tup xs)
  | some (.ins C dx fs) => some (.ins C dx fs)
  | some (.own x) => match H x with
    | some (.ins _ dx _) => if dx = b then some (.own x) else none
    | _ => none
  | _ => none
theorem cl_sub {H : Hp} {b : Addr} {o : HO} (e : cl H b = some o) : H b = some o := by
  unfold cl at e
  split at e
  · cases e; assumption
  · cases e; assumption
  · split at e
    · split at e
      · cases e; assumption
      · cases e
    · cases e
  · cases e
theorem cl_same {H : Hp} : Same (cl H) H := fun _ _ e => cl_sub e
theorem cl_tup {H : Hp} {b : Addr} {xs : List V} (e : H b = some (.tup xs)) : cl H b = some (.tup xs) := by unfold cl; rw [e]
theorem cl_ins {H : Hp} {b C dx : Addr} {fs : List (Str × V)} (e : H b = some (.ins C dx fs)) : cl H b = some (.ins C dx fs) := by unfold cl; rw [e]
theorem cl_own {H : Hp} {b x C : Addr} {fs : List (Str × V)} (e : H b = some (.own x)) (e2 : H x = some (.ins C b fs)) : cl H b = some (.own x) := by
  unfold cl
  rw [e]
  dsimp only
  rw [e2]
  exact if_pos rfl
theorem cl_cases {H : Hp} {b : Addr} {o : HO} (e : cl H b = some o) : (∃ xs, o = .tup xs) ∨ (∃ C dx fs, o = .ins C dx fs) ∨ ∃ x C fs, o = .own x ∧ H x = some (.ins C b fs) := by
  unfold cl at e
  split at e
  · cases e; exact .inl ⟨_, rfl⟩
  · cases e; exact .inr (.inl ⟨_, _, _, rfl⟩)
  · split at e
    · split at e
      · rename_i q
        cases e
        rw [← q]
        exact .inr (.inr ⟨_, _, _, rfl, ‹_›⟩)
      · cases e
    · cases e
  · cases e
/-- what the generator leans on is held wherever the consumer's heap, which has all of it, is held -/
theorem cl_ok {P : Program} {w : World} {H0 Hc : Hp} {h0 h : Heap} (k0 : HOk P w H0 h0) (s : Same (cl H0) Hc) (k : HOk P w Hc h) : HOk P w (cl H0) h := fun b o e => by
  have z := k b o (s b o e)
  rcases cl_cases e with ⟨xs, rfl⟩ | ⟨C, dx, fs, rfl⟩ | ⟨x, C, fs, rfl, hx⟩
  · exact z
  · obtain ⟨d0, _⟩ := k0 b _ (cl_sub e)
    obtain ⟨_, r⟩ := z
    exact ⟨cl_own d0 (cl_sub e), r⟩
  · exact z
/-! ### waking -/
def later (M : Model) (A : Around) (R : GenEnd) (Y : Protocol) (gs : GenState) : Nat → Resume → Shared → Prop
  | 0 => fun _ _ => False
  | m + 1 => fun r s => gs.Goes M A R Y m r s
theorem resumeS {M : Model} {A : Around} {R : GenEnd} {Y : Protocol} {n : Nat} {E : Value → Shared → Prop} {s : Shared} {g : Nat} {gs : GenState} {r : Resume} {l : List Value} {α : Type} {k : GenResult → Sem α} {Q : α → Shared → Prop}
    (hg : s.gens[g]? = some gs) (hgo : gs.Goes M A R Y n r (s.setGen g .running)) (hR : ∀ x s1, R n (s.setGen g .running) x s1 → wpAny M A (k (End.ret x).result) Q E (s1.setGen g .finished))
    (hY : ∀ v s1 gs', gs'.bare = true → sus gs' = true → Y (n - 1) (s.setGen g .running) v s1 (later M A R Y gs' n) → wpAny M A (k (.yielded v)) Q E (s1.setGen g gs')) :
    wpAny M A (.resume g r l k) Q E s := by
  rintro Γ p hΓ
  rw [Sem.wp_resume]
  have after : ∀ e1 s1, SegEnd R Y n (Seg.next M A R Y n) (s.setGen g .running) e1 s1 → e1.quiet = true ∧ wp M Γ (k e1.result) (fun a _ s' => Q a s') (fun e _ s' => E e s') p (s1.setGen g e1.genState) := fun e1 s1 he => by
    cases e1 with
    | ret x => exact ⟨rfl, hR x s1 he Γ p hΓ⟩
    | susp v g0 l0 k0 c0 p0 fs0 =>
      refine ⟨he.1, hY v s1 _ (End.bare_of_quiet he.1) rfl ?_ Γ p hΓ⟩
      cases n <;> exact he.2
  cases gs with
  | fresh c =>
    obtain ⟨rfl, hs⟩ := hgo
    obtain ⟨e1, s1, hr, he⟩ := seg_iff.mp hs (Γ.wake c p) p rfl (hΓ.wake c p)
    obtain ⟨a1, a2⟩ := after e1 s1 he
    refine ⟨_, _, ?_, a2⟩
    unfold Wakes
    rw [hg]
    exact ⟨e1, s1, hr, a1, rfl, rfl⟩
  | suspended k0 l0 c0 p0 fs0 cl0 =>
    obtain ⟨e1, s1, hr, he⟩ := seg_iff.mp hgo (Γ.wake c0 p) p0 rfl (hΓ.wake c0 p)
    obtain ⟨a1, a2⟩ := after e1 s1 he
    refine ⟨_, _, ?_, a2⟩
    unfold Wakes
    rw [hg]
    exact ⟨e1, s1, hr, a1, rfl, rfl⟩
  | running => exact hgo.elim
  | finished => exact hgo.elim
theorem nextG {G : GD} {A : Around} {s : Shared} {a : Addr} {g n : Nat} {gs : GenState} {Q : Option Value → Shared → Prop} {E : Value → Shared → Prop} (hh : A.handled = none) (hl : s.heap.NoLimit) (hroom : A.depth < recursionLimit) (hg : s.heap.IsGen a g)
    (hgs : s.gens[g]? = some gs) (hgo : gs.Goes (model G.P G.w) A.in1 (GR G) (GY G) n (.send .none) (s.setGen g .running))
    (hY : ∀ v s1 gs', gs'.bare = true → sus gs' = true → GY G (n - 1) (s.setGen g .running) v s1 (later (model G.P G.w) A.in1 (GR G) (GY G) gs' n) → Q (some v) (s1.setGen g gs'))
    (hP : ∀ s1, GF G n (s.setGen g .running) s1 → ∀ h', (∀ b o, s1.heap.get? b = some o → h'.get? b = some o) → Q none { s1.setGen g .finished with heap := h' }) : wpAny (model G.P G.w) A (pyNext (.ref a)) Q E s := by
  unfold pyNext
  refine wpAny_bind (wpAny_attempt (wpAny_callSpecial?_slot (name := Str.ofString "__next__") hg.typeIs slot_gen_next (wpAny_call_entry slot_gen_next hg.typeIs entry_gen_next ?_ (args_gen_next _))))
  show wpAny (model G.P G.w) A.in1 (Builtin.Generator.genWake (.ref a) (.send .none)) _ _ s
  unfold Builtin.Generator.genWake
  refine wpAny_bind (wpAny_holding (wpAny_genNumber hg (wpAny_bind (wpAny_genState hgs ?_))))
  cases gs with
  | running => exact hgo.elim
  | finished => exact hgo.elim
  | _ =>
    refine wpAny_bind (wpAny_roomToWake hl hroom ?_)
    show wpAny (model G.P G.w) A.in1 (.resume g (.send .none) [] _) _ _ s
    refine resumeS hgs hgo (fun x s1 hx => ?_) fun v s1 gs' hb hu hv => wpAny_pure ⟨v, rfl, wpAny_pure (hY v s1 gs' hb hu hv)⟩
    rcases hx with ⟨hr, hp⟩ | ⟨_, _, z⟩
    · have hres : End.result (.ret x) = .returned .none := by rcases hr with hr | hr <;> rw [hr] <;> rfl
      simp only [hres]
      show wpAny (model G.P G.w) A.in1 (newExc (.type "StopIteration") [] >>= _) _ _ _
      refine wpAny_bind ?_
      simp only [newExc, newTuple]
      refine wpAny_bind (wpAny_newObj_type ?_ (by size_fits))
      refine wpAny_bind (m := firstArgMember _ _) (wpAny_of_eq (a := Value.none) (by first | rfl | (simp only [firstArgMember]; rfl)) ?_)
      refine wpAny_newObj_type ?_ (by size_fits)
      simp only [raiseNew]
      refine wpAny_bind (wpAny_bind (wpAny_handled ?_))
      first | rw [show A.in1.handled = none from hh] | rw [hh]
      refine wpAny_throw (wpAny_bind (wpAny_isInstance (T := "StopIteration") (b := true) ⟨_, Heap.get?_push_size _ rfl, rfl⟩ isSubtype_stop ?_))
      exact wpAny_pure (hP s1 hp _ fun b o hb => Heap.get?_push_of_some _ (Heap.get?_push_of_some _ hb))
    · exact z.elim
/-! ### back at the consumer -/
def mh (h : Heap) (Hc H1 : Hp) : Hp := fun b => match Hc b with
  | some o => some o
  | none => match h.get? b with
    | none => H1 b
    | some _ => none
theorem mh_some {h : Heap} {Hc H1 : Hp} {b : Addr} {o : HO} (e : Hc b = some o) : mh h Hc H1 b = some o := by unfold mh; rw [e]
theorem mh_same {h : Heap} {Hc H1 : Hp} : Same Hc (mh h Hc H1) := fun _ _ e => mh_some e
theorem mh_new {h : Heap} {Hc H1 : Hp} {b : Addr} (e : Hc b = none) (hb : h.get? b = none) : mh h Hc H1 b = H1 b := by unfold mh; rw [e]; dsimp only; rw [hb]
theorem mh_old {h : Heap} {Hc H1 : Hp} {b : Addr} {u : Obj} (e : Hc b = none) (hb : h.get? b = some u) : mh h Hc H1 b = none := by unfold mh; rw [e]; dsimp only; rw [hb]
/-- the same but for what is told of any thing -/
def ExtS (H H' : Hp) : Prop := ∀ b o, H b = some o → (∀ φ, o ≠ .ext φ) → H' b = some o
theorem alive {P : Program} {w : World} {H : Hp} {h : Heap} {a : Addr} {o : HO} (x : ObjOk P w H h a o) : ∃ u, h.get? a = some u := by
  cases o with
  | lst xs => obtain ⟨_, _, _, _, e⟩ := x; exact ⟨_, e⟩
  | tup xs => obtain ⟨_, _, _, _, e, _⟩ := x; exact ⟨_, e⟩
  | dK kvs => obtain ⟨_, _, _, _, o, _, _, e, _⟩ := x; exact ⟨_, e⟩
  | dT kvs => obtain ⟨_, _, _, _, o, _, _, e, _⟩ := x; exact ⟨_, e⟩
  | set S n => obtain ⟨o, _, _, _, e, _⟩ := x; exact ⟨_, e⟩
  | ins C dx fs => obtain ⟨_, _, _, e, _⟩ := x; exact ⟨_, e⟩
  | own y => exact x
  | xd fs => obtain ⟨_, ⟨_, _, _, e, _⟩, _⟩ := x; exact ⟨_, e⟩
  | rng lo hi => obtain ⟨_, _, _, e⟩ := x; exact ⟨_, e⟩
  | frz ob u => obtain ⟨e, _⟩ := x; exact ⟨_, e⟩
  | tbl ps => exact ⟨_, x⟩
  | met f y => exact ⟨_, x⟩
  | ext φ => exact x.2.1
section
variable {X : Cx} {pins : List (Addr × Obj)} {σ : L2.St} {Hc H0 H1 : Hp} {G : GD} {s s1 : Shared}
/-- the consumer's own things, and the generator's -/
structure Fit (X : Cx) (pins : List (Addr × Obj)) (G : GD) (H0 : Hp) : Prop where
  P : G.P = X.prog
  w : G.w = X.w
  K : G.K = X.K
  mg : G.mg = X.mg
  base : G.base = X.base
  outer : G.outer = X.stack
  Hg : G.Hg = cl H0
  k0 : ∃ h0, HOk X.prog X.w H0 h0
  ok : GOk G
  sz : G.L ∈ X.ex ∨ X.s_0.heap.objs.size ≤ G.L
  loc : G.L ≠ X.env.locals
  cell : ∀ x c, X.env.cells.lookup x = some c → c ≠ G.L
  pin : ∀ p ∈ X.pn ++ pins, p.1 ≠ G.L
theorem merge (F : Fit X pins G H0) (I : Inv X pins σ Hc s) (sm : Same (cl H0) Hc) (hL : Hc G.L = none) (e : GEnd G s H1 s1) : Inv X pins σ (mh s.heap Hc H1) s1 ∧ ExtS H1 (mh s.heap Hc H1) ∧ ∀ b u, s.heap.get? b = some u → G.L < b → s1.heap.get? b = some u := by
  obtain ⟨e1, e2, un, hok, _, sw, fL⟩ := e
  obtain ⟨h0, k0⟩ := F.k0
  have hg := F.Hg
  rw [hg, F.outer] at un
  rw [F.P, F.w] at hok
  have frl : ∀ b ∈ frs X.stack, b < G.L := fun b hb => F.ok.frL b (by rw [F.outer]; exact hb)
  have above : ∀ b u, s.heap.get? b = some u → G.L < b → s1.heap.get? b = some u := fun b u hu hb => by
    have h2 : Hw G s b = some (.ext fun h => h.get? b = some u) := by unfold Hw; rw [if_pos hb, hu] <;> rfl
    exact (hok b _ (sw b _ h2)).1
  have kept : ∀ b u, s.heap.get? b = some u → cl H0 b = none → b ≠ G.L → b ∉ frs X.stack → s1.heap.get? b = some u := fun b u hu hn hb hf => by
    by_cases h1 : G.L < b
    · exact above b u hu h1
    · exact un.keep b u (trunc_of (Nat.lt_of_le_of_ne (Nat.not_lt.mp h1) hb) hu) hn hf (by simp)
  have cln : ∀ b, Hc b = none → cl H0 b = none := fun b hn => by
    cases h : cl H0 b with
    | none => rfl
    | some o => rw [sm b o h] at hn; cases hn
  have fr : ∀ b o, Hc b = some o → b ∉ frs X.stack := fun b o q z => by rw [I.stkFree b z] at q; cases q
  have neL : ∀ b o, Hc b = some o → b ≠ G.L := fun b o q z => by rw [z, hL] at q; cases q
  have ext : ExtS H1 (mh s.heap Hc H1) := fun b o q ne => by
    cases hc : Hc b with
    | some o' =>
      obtain ⟨u, hu⟩ := alive (I.hok b o' hc)
      rw [mh_some hc, ← hc]
      by_cases h1 : G.L < b
      · have h2 : Hw G s b = some (.ext fun h => h.get? b = some u) := by unfold Hw; rw [if_pos h1, hu] <;> rfl
        rw [sw b _ h2] at q
        cases q
        exact absurd rfl (ne _)
      · cases h2 : cl H0 b with
        | some o2 =>
          rw [sw b o2 (hw_lt F.ok (by rw [hg]; exact h2))] at q
          cases q
          exact sm b o h2
        | none =>
          rw [un.free b u (trunc_of (Nat.lt_of_le_of_ne (Nat.not_lt.mp h1) (neL b o' hc)) hu) h2 (by simp)] at q
          cases q
    | none =>
      cases hu : s.heap.get? b with
      | none => rw [mh_new hc hu]; exact q
      | some u =>
        by_cases h1 : G.L < b
        · have h2 : Hw G s b = some (.ext fun h => h.get? b = some u) := by unfold Hw; rw [if_pos h1, hu] <;> rfl
          rw [sw b _ h2] at q
          cases q
          exact absurd rfl (ne _)
        · by_cases h3 : b = G.L
          · rw [h3, fL] at q
            cases q
          · rw [un.free b u (trunc_of (Nat.lt_of_le_of_ne (Nat.not_lt.mp h1) h3) hu) (cln b hc) (by simp)] at q
            cases q
  have up : ∀ {b : Addr} {o : HO}, ObjOk X.prog X.w H1 s1.heap b o → ObjOk X.prog X.w (mh s.heap Hc H1) s1.heap b o := fun x => x.stay (fun _ _ _ y => y) (fun c y => ext c _ y fun φ z => by cases z) fun c xs y => ext c _ y fun φ z => by cases z
  have hok2 : HOk X.prog X.w (mh s.heap Hc H1) s1.heap := fun b o q => by
    cases hc : Hc b with
    | some o' =>
      rw [mh_some hc] at q
      cases q
      cases h2 : cl H0 b with
      | some o2 =>
        have := sm b o2 h2
        rw [hc] at this
        cases this
        exact up (hok b o (sw b o (hw_lt F.ok (by rw [hg]; exact h2))))
      | none =>
        refine (I.hok b o hc).stay (fun c u hcc hu => ?_) (fun c y => mh_some y) fun c xs y => mh_some y
        rcases hcc with rfl | hcc
        · exact kept c u hu h2 (neL c o hc) (fr c o hc)
        · refine kept c u hu ?_ (neL c _ hcc) (fr c _ hcc)
          cases h3 : cl H0 c with
          | none => rfl
          | some o3 =>
            have := sm c o3 h3
            rw [hcc] at this
            cases this
            rcases cl_cases h3 with ⟨xs, z⟩ | ⟨C, dx, fs, z⟩ | ⟨x, C, fs, z, hx⟩
            · cases z
            · cases z
            · cases z
              rw [cl_ins hx] at h2
              cases h2
    | none =>
      cases hu : s.heap.get? b with
      | none => rw [mh_new hc hu] at q; exact up (hok b o q)
      | some u => rw [mh_old hc hu] at q; cases q
  refine ⟨I.call' (ch := [G.L]) e1 ⟨fun b u q n hf hx => kept b u q (cln b n) (fun z => hx (by rw [z]; simp)) hf, fun b u q n hf hx => un.slot b u (trunc_of (frl b hf) q) (cln b n) hf (by simp), fun b u q n hx => mh_old n q, fun b u q hx => ?_,
    fun b xs q => mh_some q, fun b o u q => mh_some q, fun b ps q => ⟨#[], by rw [mh_some q]; simp⟩⟩ hok2 e2 (fun b hb => ?_), ext, above⟩
  · by_cases h1 : G.L < b
    · exact ⟨u, above b u q h1⟩
    · exact un.there b u (trunc_of (Nat.lt_of_le_of_ne (Nat.not_lt.mp h1) (fun z => hx (by rw [z]; simp))) q) (by simp)
  · rw [List.mem_singleton.mp hb]
    exact ⟨F.sz, F.loc, F.cell, F.pin⟩
end
end Gg

namespace Gg
open PySem PySem.Spec PyProof.Rows GenW L2
open Gk (sus Slp pt shut wpAny_slp)
/-! ### a generator def is called: the generator, not yet begun -/
def gdOf (P : Program) (w : World) (K : PySem.W.Frag) (mg : Str → Option Value) (base : Heap) (N : List Str) (qual : Str) (scope : Scope) (f : Addr) (cd : Value) (outer : List Env) (L : Addr) (Hg : Hp) (n : Nat) (It : Nat → V → Hp → Prop) (A : Around) : GD :=
  { P := P, w := w, K := K, mg := mg, base := base, N := N, qual := qual, scope := scope, f := f, cd := cd, A := A, outer := outer, L := L, Hg := Hg, n := n, It := It }
/-- what a generator def promises: the arguments, what stands there, how many items, which -/
abbrev SpF := List V → Hp → Nat → (Nat → V → Hp → Prop) → Prop
def Mono (It : Nat → V → Hp → Prop) : Prop := ∀ j x H H', It j x H → ExtS H H' → It j x H'
structure MadeF (GA : Around → GD) (k : Nat) (s : Shared) (u : Value) (s' : Shared) : Prop where
  ex : ∃ (a : Addr) (g : Nat) (c : Code) (oL go : Obj), u = .ref a ∧ s.heap.objs.size < a ∧ s'.heap.get? a = some go ∧ (∀ h : Heap, h.get? a = some go → h.IsGen a g) ∧ (∀ v, go.data ≠ .cell v) ∧ s'.gens[g]? = some (.fresh c) ∧ s'.os = s.os ∧ AllBare s'.gens ∧
    (∀ b o, s.heap.get? b = some o → s'.heap.get? b = some o) ∧ s'.heap.get? s.heap.objs.size = some oL ∧ (∀ v, oL.data ≠ .cell v) ∧
    (∀ A : Around, A.handled = none → GOk (GA A)) ∧ ∀ A s2, Room k A → A.handled = none → Wk (GA A) oL s2 → Seg (model (GA A).P (GA A).w) A (GR (GA A)) (GY (GA A)) (GA A).n s2 c ((model (GA A).P (GA A).w).den c) [] s2
structure GFnF (P : Program) (w : World) (K : PySem.W.Frag) (mg : Str → Option Value) (base : Heap) (k : Nat) (f : Addr) (fd : FuncData) (ps : List Str) (sp : SpF) : Prop where
  len : ∀ vs H n It, sp vs H n It → vs.length = ps.length
  mono : ∀ vs H n It, sp vs H n It → Mono It
  run : ∃ (N : List Str) (qual : Str) (scope : Scope) (cd : Value), ∀ (A : Around) (outer : List Env) (s : Shared) (H : Hp) (args : Args) (us : List Value) (vs : List V) (n : Nat) (It : Nat → V → Hp → Prop), Room k A → Env0 P w K mg base A outer s H → BindsTo s fd args (ps.zip us) → Vals vs us → sp vs (cl H) n It →
    codeAny (model P w) A (.call (.ref f) args) (fun r s' => match r with | .ok (.ret u) => MadeF (gdOf P w K mg base N qual scope f cd outer s.heap.objs.size (cl H) n It) k s u s' | _ => False) s
theorem nk_of {scope : Scope} (h : (scope.names.all fun y => !decide (y.2 = .cell) && !decide (y.2 = .free)) = true) : ∀ x, scope.names.lookup x ≠ some .cell ∧ scope.names.lookup x ≠ some .free := fun x => by
  rw [List.all_eq_true] at h
  refine ⟨fun z => ?_, fun z => ?_⟩
  · have := h _ (PySem.mem_of_lookup z)
    simp at this
  · have := h _ (PySem.mem_of_lookup z)
    simp at this
/-- THE RULE: a generator def by its body -/
theorem gfnF_of {P : Program} {w : World} {K : PySem.W.Frag} {mg : Str → Option Value} {base : Heap} {k : Nat} {f : Addr} {x qual : Str} {params : Arguments} {body : List Stmt} {scope : Scope} {dvs : List V} {kws : List (Str × V)} {fd : FuncData} {N ps : List Str} {sp : SpF}
    (F : FunD K x qual params body scope dvs kws f fd) (S : GScope N ps scope) (hnk : (scope.names.all fun y => !decide (y.2 = .cell) && !decide (y.2 = .free)) = true) (hnc : ∀ L, cellsFrom L scope.names [] = [])
    (len : ∀ vs H n It, sp vs H n It → vs.length = ps.length) (mono : ∀ vs H n It, sp vs H n It → Mono It)
    (hbody : ∀ (cd : Value) (outer : List Env) (L : Addr) (Hg : Hp) (n : Nat) (It : Nat → V → Hp → Prop) (A : Around) (vs : List V), GOk (gdOf P w K mg base N qual scope f cd outer L Hg n It A) → Room k (A.deeper (envOfC qual scope L f cd)) → sp vs Hg n It →
      ∃ t, GSs (gdOf P w K mg base N qual scope f cd outer L Hg n It A) body t ∧ ∀ H, Same Hg H → t { nx := fun j H0 _ H => j = n ∧ Same H0 H, rt := fun j H0 v H => v = .non ∧ j = n ∧ Same H0 H } 0 H (start N vs) H) : GFnF P w K mg base (k + 1) f fd ps sp := by
  obtain ⟨oc, od, dV, kV, doc, pm, an, cdv, ct, osl, rfl, lk, hcd, _, _⟩ := F.ex
  refine ⟨len, mono, N, qual, scope, cdv, fun A outer s H args us vs n It hr e0 hb r hsp => ?_⟩
  have hl := len _ _ _ _ hsp
  have KX : K.In s.heap := e0.mod.kin.keeps fun b o e => (e0.bs b o e).1
  have lim : s.heap.NoLimit := e0.mod.nolimit.keeps fun b o e => (e0.bs b o e).1
  have hkind : ∀ y ∈ ps.zip us, scope.names.lookup y.1 = some .local ∨ (scope.names.lookup y.1 = some .cell ∧ ((cellsFrom (s.heap.objs.size + 1) scope.names []).lookup y.1).isSome = true) := fun y hy =>
    (S.par y.1 (List.of_mem_zip hy).1).imp id fun q => ⟨q, PySem.W.cellsFrom_some _ _ _ (.inl q)⟩
  refine codeAny_call_generator hr.depth (KX _ _ lk) rfl S.co S.gen rfl (PySem.W.codeRec_of KX hcd) (hb _ _ _ _ ?_)
  refine wpAny_newFunctionEnv_cells S.kind hkind fun env he s1 xx => ?_
  subst he
  refine ⟨lim.keeps xx.toInCall.keep, ?_⟩
  obtain ⟨h1, tk, es1, hk1⟩ := xx.done
  have os1 : s1.os = s.os := by rw [es1]
  have gen1 : s1.gens = s.gens := by rw [es1]
  have lt1 : s.heap.objs.size < s1.heap.objs.size := xx.toInCall.ns.lt
  have I1 : Inv (gcxOf P w K mg base N qual scope f cdv A outer s H (fun _ _ _ => False) []) [] (start N vs) H s1 := inv_startG S hr.hd e0 hl r xx
  obtain ⟨m, ⟨oL, es, ep, hoL, hdL, rL⟩, hv⟩ := I1.loc
  have hoL : s1.heap.get? s.heap.objs.size = some oL := hoL
  have lc : ∀ A2 : Around, LocL (gdOf P w K mg base N qual scope f cdv outer s.heap.objs.size (cl H) n It A2) oL (start N vs) := fun A2 => by
    refine ⟨I1.len, m, fun h e => ⟨oL, es, ep, e, hdL, rL⟩, fun i y v h1 h2 h3 => ?_⟩
    obtain ⟨u, ru, q⟩ := hv i y v h1 h2 h3
    rcases q with ⟨kk, e⟩ | ⟨_, c, e, _⟩
    · exact ⟨u, ru, kk, e⟩
    · have : (cellsFrom (s.heap.objs.size + 1) scope.names []).lookup y = some c := e
      rw [hnc] at this
      cases this
  have hok1 : ∀ {A' : Around}, A'.handled = none → GOk (gdOf P w K mg base N qual scope f cdv outer s.heap.objs.size (cl H) n It A') := fun {A'} hh =>
    ⟨hh, S.kind, nk_of hnk, hnc _, fun b o e => (e0.hok b o (cl_sub e)).lt, fun b hb => by obtain ⟨_, o, ho, _⟩ := e0.funs.mem hb; exact Heap.lt_size ho, e0.bsz⟩
  have main : ∀ (go : Obj) (nm qn : Value) (tk2 : Nat), go.cls = .type "generator" → go.data = .fields #[.int s1.gens.size 0, nm, qn] → go.slots = #[] → (∀ h : Heap, (h.push go).get? h.objs.size = some go) →
      MadeF (gdOf P w K mg base N qual scope f cdv outer s.heap.objs.size (cl H) n It) (k + 1) s (.ref s1.heap.objs.size) { s1 with gens := s1.gens.push (.fresh (.func body (envOfC qual scope s.heap.objs.size f cdv))), toks := tk2, heap := s1.heap.push go } := by
    intro go nm qn tk2 hgc hgd hgs hgp
    refine ⟨⟨s1.heap.objs.size, s1.gens.size, _, oL, go, rfl, lt1, hgp _, fun h e => ⟨go, nm, qn, e, hgc, hgd, hgs⟩, fun v q => (by rw [hgd] at q; cases q), Array.getElem?_push_size .., os1, AllBare.push (by rw [gen1]; exact e0.bare) rfl,
      fun b o e => Heap.get?_push_of_some _ (xx.toInCall.keep b o e), Heap.get?_push_of_some _ hoL, fun v q => (by rw [hdL] at q; cases q), fun A2 hh => hok1 hh, fun A2 s2 hr2 hh W => ?_⟩⟩
    have ok := hok1 hh
    obtain ⟨t, ht, hq⟩ := hbody cdv outer s.heap.objs.size (cl H) n It A2 vs ok (hr2.deeper _) hsp
    refine seg_func (ht.run A2 n 0 s2 _ [] _ _ id id s2 (start N vs) _ _ ⟨over_func, rfl, rfl, rfl⟩ (Nat.add_zero _) (fun m' j' s0 s' fl hn hs => ?_) (wake ok W (lc A2)) (hq _ (hw_same ok)))
    cases fl with
    | next =>
      obtain ⟨σ', H', I', e1, e2⟩ := hs
      have e1 : j' = n := e1
      have hn : m' + j' = n := hn
      exact seg_end (.ok (.ret .none)) (.inl ⟨.inl rfl, by omega, H', gend I' e2⟩)
    | brk => obtain ⟨_, _, _, q⟩ := hs; exact q.elim
    | cont => obtain ⟨_, _, _, q⟩ := hs; exact q.elim
    | ret u =>
      obtain ⟨v, σ', H', I', rv, ev, e1, e2⟩ := hs
      have ev : v = .non := ev
      subst ev
      have eu : u = Value.none := rv
      subst eu
      have e1 : j' = n := e1
      have hn : m' + j' = n := hn
      exact seg_end (.ok (.ret .none)) (.inl ⟨.inl rfl, by omega, H', gend I' e2⟩)
  exact main _ _ _ _ rfl rfl rfl fun h => Heap.get?_push_size _ rfl
end Gg

namespace Gg
open PySem PySem.Spec PyProof.Rows GenW L2
open Gk (sus Slp pt shut wpAny_slp)
/-! ### an expression whose value is such a generator -/
abbrev TGF := L2.St → Hp → (Hp → Nat → (Nat → V → Hp → Prop) → Prop) → Prop
structure PGenF (X : Cx) (k : Nat) (e : Expr) (tg : TGF) : Prop where
  run : ∀ (pins : List (Addr × Obj)) (s : Shared) (σ : L2.St) (H : Hp) (cont : Hp → Nat → (Nat → V → Hp → Prop) → Prop), Inv X pins σ H s → tg σ H cont → wpAny (model X.prog X.w) X.A (eval e X.env)
    (fun u s' => ∃ H1 sc n It N qual scope f cd, Inv X pins σ H1 sc ∧ MadeF (gdOf X.prog X.w X.K X.mg X.base N qual scope f cd X.stack sc.heap.objs.size (cl H1) n It) k sc u s' ∧ Mono It ∧ cont H1 n It) X.xe s
section
variable {X : Cx} {k : Nat} {f : Addr} {fd : FuncData} {ps : List Str} {sp : SpF} {x : Str} {dvs : List V} {ds : List Value} {p pos' : Pos}
def tCallF (sp : SpF) (dvs : List V) (t : TA) : TGF := fun σ H cont => t σ H fun vs H1 => ∃ n It, sp (vs ++ dvs) (cl H1) n It ∧ cont H1 n It
/-- f(e, ..), f a generator def -/
theorem pgenF_call {e : Expr} {es : List Expr} {t : TA} (F : GFnF X.prog X.w X.K X.mg X.base k f fd ps sp) (hr : Room k X.A) (hg : Gl X x) (hm : X.mg x = some (.ref f)) (hk : PySem.W.keepIn X.K (.ref f) = true) (hb : L2.Binds X.K fd ps ds) (hd : Vals dvs ds) (ha : PA X (e :: es) t)
    (hdb : (x == ("__debug__" : Str)) = false := by decide) (he : starEach (e :: es) X.env = (false, eval e X.env) :: starEach es X.env := by rfl) (hpl : (backTo pos' (starEach es X.env)).any (·.1) = false := by rfl) : PGenF X k (.Call (.Name x p) (e :: es) [] pos') (tCallF sp dvs t) := by
  refine ⟨fun pins s σ H cont I h => ?_⟩
  refine wpAny_Call_Name_kw (ld_glob I hg hm ?_ hdb)
  refine PySem.W.callWith_K (h₀ := X.base) I.ok.mod.kin hk (thn (ha.run pos' pins s σ H _ I h) fun us s1 ⟨vs, H1, I1, r, n, It, hsp, hc⟩ => ⟨I1.kIn, ?_⟩) he hpl
  obtain ⟨N, qual, scope, cd, run⟩ := F.run
  have r2 : Vals (vs ++ dvs) (us ++ ds) := r.append hd
  have hl2 : (us ++ ds).length = ps.length := by rw [← r2.length]; exact F.len _ _ _ _ hsp
  refine wpAny_call (codeAny_mono (run X.A X.stack s1 H1 ⟨us, []⟩ (us ++ ds) (vs ++ dvs) n It hr I1.env0 (hb s1 us I1.kIn hl2) r2 hsp) fun r s' hq => ?_)
  cases r with
  | error e => exact hq.elim
  | ok fl =>
    cases fl with
    | ret u => exact ⟨H1, s1, n, It, N, qual, scope, f, cd, I1, hq, F.mono _ _ _ _ hsp, hc⟩
    | next => exact hq.elim
    | brk => exact hq.elim
    | cont => exact hq.elim
end
/-! ### the consumer's loop -/
theorem ownedGo {prog : Program} {w : World} {A : Around} {E : Value → Shared → Prop} {s : Shared} {a : Addr} {g : Nat} {target : Expr} {v : Value} {Q : Unit → Shared → Prop} (hg : s.heap.IsGen a g) (h : Q () s) : wpAny (model prog w) A (letOwnedTupleGo target (.ref a) v) Q E s := by
  obtain ⟨o, nm, qn, ho, hc, hd, _⟩ := hg
  obtain ⟨oc, od, odt, osl⟩ := o
  dsimp only at hc hd
  subst hc hd
  unfold letOwnedTupleGo
  have go : wpAny (model prog w) A (do
      let (.ref r, .ref b) := ((.ref a, v) : Value × Value) | return
      let o ← load r
      match o.cls, o.data with
      | .type n, .fields vs =>
        if ["enumerate", "zip", "dict_itemiterator", "dict_reverseitemiterator", "odict_iterator", "itertools.zip_longest", "itertools.pairwise"].contains n && vs[0]? == some (rawInt b) then
          rule "for.unpacks-the-owned-tuple"
          updateField r 0 .none
      | _, _ => pure ()) Q E s := by
    cases v <;> first | exact wpAny_pure h | skip
    refine wpAny_bind (wpAny_load ho ?_)
    exact wpAny_pure h
  split
  · exact go
  · exact go
  · exact wpAny_pure h
theorem inv_gens {X : Cx} {pins : List (Addr × Obj)} {σ : L2.St} {H : Hp} {s : Shared} {G : Array GenState} (I : Inv X pins σ H s) (hG : AllBare G) : Inv X pins σ H { s with gens := G } :=
  ⟨I.ok, I.os, hG, I.base, I.loc, I.cell, I.free, I.freeC, I.pin, I.hok, I.len⟩
theorem inv_shut {X : Cx} {pins : List (Addr × Obj)} {σ : L2.St} {H : Hp} {s : Shared} (I : Inv X pins σ H s) : Inv X pins σ H (shut s) := inv_gens I (Gk.bare_stk I.bare)
theorem inv_pt {X : Cx} {pins : List (Addr × Obj)} {σ : L2.St} {H : Hp} {s : Shared} {Y : Array GenState} (I : Inv X pins σ H s) (hY : AllBare Y) : Inv X pins σ H (pt Y s) := inv_gens I (Gk.bare_put hY I.bare)
theorem bare_set {s : Shared} {g : Nat} {x : GenState} (h : AllBare s.gens) (hx : x.bare = true) : AllBare (s.setGen g x).gens := allBare_setGen h hx
theorem sp_pt {X : Cx} {pins : List (Addr × Obj)} {D : Ends} {f : Flow} {s : Shared} {Y : Array GenState} (h : SP X pins D f s) (hY : AllBare Y) : SP X pins D f (pt Y s) := by
  cases f with
  | next => obtain ⟨σ, H, I, q⟩ := h; exact ⟨σ, H, inv_pt I hY, q⟩
  | brk => obtain ⟨σ, H, I, q⟩ := h; exact ⟨σ, H, inv_pt I hY, q⟩
  | cont => obtain ⟨σ, H, I, q⟩ := h; exact ⟨σ, H, inv_pt I hY, q⟩
  | ret u => obtain ⟨v, σ, H, I, r, q⟩ := h; exact ⟨v, σ, H, inv_pt I hY, r, q⟩
section
variable {X : Cx}
/-- the consumer may wake it -/
theorem wk_of {pins : List (Addr × Obj)} {σ : L2.St} {Hc H0 : Hp} {G : GD} {oL : Obj} {s : Shared} (F : Fit X pins G H0) (hA : G.A.frames = X.A.frames) (I : Inv X pins σ Hc s) (sm : Same (cl H0) Hc) (hL : s.heap.get? G.L = some oL) : Wk G oL s := by
  obtain ⟨h0, k0⟩ := F.k0
  have e := I.env0
  have cln : ∀ b, Hc b = none → cl H0 b = none := fun b hn => by
    cases h : cl H0 b with
    | none => rfl
    | some o => rw [sm b o h] at hn; cases hn
  refine ⟨⟨by rw [hA, F.outer]; exact e.frames, by rw [F.K, F.mg, F.base]; exact e.mod, fun b o q => ?_, by rw [F.base]; exact e.bsz, by rw [F.base, F.outer]; exact e.funs, fun b hb => ?_, by rw [F.P, F.w, F.Hg]; exact cl_ok k0 sm e.hok, e.bare⟩, hL⟩
  · rw [F.base] at q
    obtain ⟨h1, h2⟩ := e.bs b o q
    exact ⟨h1, by rw [F.Hg]; exact cln b h2⟩
  · rw [F.outer] at hb
    rw [F.Hg]
    exact cln b (e.frf b hb)
/-- between two turns -/
structure LSt (X : Cx) (pins : List (Addr × Obj)) (G : GD) (H1 : Hp) (a : Addr) (g : Nat) (go oL : Obj) (gs : GenState) (j : Nat) (σ : L2.St) (Hc : Hp) (s : Shared) : Prop where
  inv : Inv X (pins ++ [(G.L, oL), (a, go)]) σ Hc s
  sm : Same (cl H1) Hc
  at_ : s.gens[g]? = some gs
  wk : ∀ s2, Wk G oL s2 → gs.Goes (model G.P G.w) G.A (GR G) (GY G) (G.n - j) (.send .none) s2
theorem turnG {pins : List (Addr × Obj)} {G : GD} {A : Around} {H1 Hc : Hp} {a : Addr} {g j : Nat} {go oL : Obj} {gs : GenState} {σ : L2.St} {s : Shared} {E : Value → Shared → Prop} (F : Fit X pins G H1) (mono : Mono G.It) (hA : G.A = A.in1) (hfr : A.frames = X.A.frames) (hh : A.handled = none) (hroom : A.depth < recursionLimit)
    (hgo : ∀ h : Heap, h.get? a = some go → h.IsGen a g) (hLa : G.L < a) (hj : j ≤ G.n) (S : LSt X pins G H1 a g go oL gs j σ Hc s) :
    wpAny (model X.prog X.w) A (pyNext (.ref a)) (fun r s' => match r with
      | none => j = G.n ∧ ∃ H', Same Hc H' ∧ Inv X pins σ H' s'
      | some v => j < G.n ∧ ∃ x H' oL' gs', RelV x v ∧ Same Hc H' ∧ G.It j x H' ∧ sus gs' = true ∧ LSt X pins G H1 a g go oL' gs' (j + 1) σ H' s') E s := by
  have I := S.inv
  obtain ⟨pL1, pL2, pL3, pL4, pL5⟩ := I.pin (G.L, oL) (by simp)
  obtain ⟨pa1, pa2, pa3, pa4, pa5⟩ := I.pin (a, go) (by simp)
  have pL1 : s.heap.get? G.L = some oL := pL1
  have pL2 : Hc G.L = none := pL2
  have pa1 : s.heap.get? a = some go := pa1
  have pa2 : Hc a = none := pa2
  have gl : g < s.gens.size := (Array.getElem?_eq_some_iff.mp S.at_).1
  -- waking
  have Ir : Inv X (pins ++ [(G.L, oL), (a, go)]) σ Hc (s.setGen g .running) := inv_gens I (bare_set I.bare rfl)
  have I0 : Inv X pins σ Hc (s.setGen g .running) := Ir.pins_of fun p hp => Ir.pin p (List.mem_append_right _ (List.mem_append_left _ hp))
  have Wr : Wk G oL (s.setGen g .running) := wk_of F (by rw [hA]; exact hfr) I0 S.sm pL1
  have hgo' := S.wk _ Wr
  rw [hA, F.P, F.w] at hgo'
  have back : ∀ {H' : Hp} {s1 : Shared}, GEnd G (s.setGen g .running) H' s1 → Inv X pins σ (mh s.heap Hc H') s1 ∧ ExtS H' (mh s.heap Hc H') ∧ s1.heap.get? a = some go ∧ mh s.heap Hc H' a = none ∧ mh s.heap Hc H' G.L = none := fun {H' s1} e => by
    obtain ⟨b1, b2, b3⟩ := merge F I0 S.sm pL2 e
    exact ⟨b1, b2, b3 a go pa1 hLa, mh_old pa2 pa1, mh_old pL2 pL1⟩
  have nx := nextG (G := G) (A := A) (s := s) (a := a) (g := g) (n := G.n - j) (gs := gs) (E := E) (Q := fun r s' => g + 1 ≤ s'.gens.size → match r with
      | none => j = G.n ∧ ∃ H', Same Hc H' ∧ Inv X pins σ H' s'
      | some v => j < G.n ∧ ∃ x H' oL' gs', RelV x v ∧ Same Hc H' ∧ G.It j x H' ∧ sus gs' = true ∧ LSt X pins G H1 a g go oL' gs' (j + 1) σ H' s') hh I.nolimit hroom (hgo _ pa1) S.at_ (by rw [F.P, F.w]; exact hgo') (fun v s1 gs' hb hu hv hsz => ?_) fun s1 hp h' hk _ => ?_
  · rw [F.P, F.w] at nx
    exact wpAny_gsz (n := g + 1) gl (wpAny_mono nx (fun _ _ z => z) fun _ _ z _ => z)
  · obtain ⟨x, H', j', oL', hn, rv, e, hit, hL', hnc, hk⟩ := hv
    obtain ⟨b1, b2, b3, b4, b5⟩ := back e
    have wk1 : ∀ s2, Wk G oL' s2 → later (model G.P G.w) A.in1 (GR G) (GY G) gs' (G.n - j) (.send .none) s2 := hk
    have sm2 : Same (cl H1) (mh s.heap Hc H') := fun b o q => mh_some (S.sm b o q)
    have hlt : j < G.n := by
      refine Nat.lt_of_le_of_ne hj fun z => ?_
      have := wk1 s1 (wk_of F (by rw [hA]; exact hfr) b1 sm2 hL')
      rw [show G.n - j = 0 by omega] at this
      exact this
    have ej : j' = j := by omega
    subst ej
    refine ⟨hlt, x, mh s.heap Hc H', oL', gs', rv, mh_same, mono _ _ _ _ hit b2, hu, inv_gens (Inv.pins_of b1 fun p hp => ?_) (bare_set b1.bare hb), sm2, ?_, fun s2 W2 => ?_⟩
    · rcases List.mem_append.mp hp with z | z
      · exact b1.pin p (List.mem_append_right _ z)
      · rcases List.mem_cons.mp z with z | z
        · rw [z]
          exact ⟨hL', b5, pL3, pL4, hnc⟩
        · rw [List.mem_singleton.mp z]
          exact ⟨b3, b4, pa3, pa4, pa5⟩
    · have e2 : (s1.setGen g gs').gens.size = s1.gens.size := setGen_size _ _ _
      exact setGen_at (by omega)
    · have := wk1 s2 W2
      rw [show G.n - j' = (G.n - (j' + 1)) + 1 by omega] at this
      rw [hA]
      exact this
  · obtain ⟨e0, H', e⟩ := hp
    obtain ⟨b1, b2, b3, b4, b5⟩ := back e
    refine ⟨by omega, mh s.heap Hc H', mh_same, ?_⟩
    exact b1.call' (ch := []) rfl (Un.kept hk) (b1.hok.kept hk) (bare_set b1.bare rfl) fun b z => absurd z (by simp)
def tForG (tg : TGF) (g : TG) (tb : TS) : TS := fun D σ H => tg σ H fun H1 n It => ∃ W : Nat → L2.St → Hp → Prop, W 0 σ H1 ∧ (∀ j σ H, W j σ H → Same (cl H1) H) ∧
  (∀ j σ H x H', j < n → W j σ H → Same H H' → It j x H' → g x σ H' fun σ2 H2 => tb { D with nx := W (j + 1), ct := W (j + 1), bk := D.nx } σ2 H2) ∧ ∀ σ H H', W n σ H → Same H H' → D.nx σ H'
/-- a piece run while a generator sleeps: it sleeps on -/
theorem asleep {α : Type} {A : Around} {t : Sem α} {Q : α → Shared → Prop} {s : Shared} {g : Nat} {gs : GenState} {E : Value → Shared → Prop} (h : wpAny (model X.prog X.w) A t Q (fun _ _ => False) (shut s)) (hg : s.gens[g]? = some gs) (hu : sus gs = true) (hQ : ∀ a s', Q a s' → Q a (pt s.gens s')) :
    wpAny (model X.prog X.w) A t (fun a s' => s'.gens[g]? = some gs ∧ Q a s') E s :=
  wpAny_mono (wpAny_slp h) (fun a s' ⟨s2, e, sl, q⟩ => ⟨sl g gs hg hu, by rw [e]; exact hQ a s2 q⟩) fun _ _ ⟨_, _, _, z⟩ => z.elim
theorem ps_forG {k : Nat} {iter tgt : Expr} {body : List Stmt} {tg : TGF} {g : TG} {tb : TS} {pos : Pos} (hx : X.xe = fun _ _ => False) (hc : X.calm = true) (hr : Room (k + 1) X.A) (hi : PGenF X k iter tg) (hg : PG X tgt g) (hb : PSs X body tb)
    (hs : ∀ x, foldedSetIterable iter X.env x = pure x := by intro _; rfl) : PS X (.For tgt iter body [] pos) (tForG tg g tb) := by
  refine ⟨fun pins s σ H D I h => ?_⟩
  refine wpAny_For (thn (hi.run pins s σ H _ I h) fun u s1 h1 => ?_) hs
  obtain ⟨H1, sc, n, It, N, qual, scope, f, cd, I1, ⟨a, gi, c, oL, go, rfl, hLa, hao, hgen, hgc, hgf, hos, hba, hkp, hLo, hLc, hok1, hseg⟩, mono, W, w0, wsm, turn, done⟩ := h1
  refine wpAny_pyIter_gen (hgen _ hao) ?_
  have hh : X.A.handled = none := I1.ok.hd hc
  have Is : Inv X pins σ H1 s1 := I1.call' (ch := []) hos (Un.kept hkp) (I1.hok.kept hkp) hba fun b z => absurd z (by simp)
  have nL : H1 sc.heap.objs.size = none := I1.hok.fresh (Nat.le_refl _)
  have nA : H1 a = none := I1.hok.fresh (Nat.le_of_lt hLa)
  have kl := I1.lt
  have pin1 : ∀ p ∈ X.pn ++ pins, p.1 ≠ sc.heap.objs.size := fun p hp => Nat.ne_of_lt (Heap.lt_size (I1.pin p hp).1)
  have Ip : Inv X (pins ++ [(sc.heap.objs.size, oL), (a, go)]) σ H1 s1 := Inv.pins_of Is fun p hp => by
    rcases List.mem_append.mp hp with z | z
    · exact Is.pin p (List.mem_append_right _ z)
    · rcases List.mem_cons.mp z with z | z
      · rw [z]
        exact ⟨hLo, nL, Nat.ne_of_gt kl, I1.nofs (Nat.le_refl _), hLc⟩
      · rw [List.mem_singleton.mp z]
        exact ⟨hao, nA, Nat.ne_of_gt (Nat.lt_trans kl hLa), I1.nofs (Nat.le_of_lt hLa), hgc⟩
  -- what fits
  generalize hG : gdOf X.prog X.w X.K X.mg X.base N qual scope f cd X.stack sc.heap.objs.size (cl H1) n It X.A.in1 = G at *
  have gn : G.n = n := by rw [← hG] <;> rfl
  have gI : G.It = It := by rw [← hG] <;> rfl
  have gL : G.L = sc.heap.objs.size := by rw [← hG] <;> rfl
  have gA : G.A = X.A.in1 := by rw [← hG] <;> rfl
  have hokG : GOk G := by rw [← hG]; exact hok1 X.A.in1 hh
  have F : Fit X pins G H1 := by
    subst hG
    exact ⟨rfl, rfl, rfl, rfl, rfl, rfl, rfl, ⟨_, I1.hok⟩, hokG, .inr I1.sz, Nat.ne_of_gt kl, fun x c e z => by
      obtain ⟨v, o, ho, _⟩ := I1.cell x c e
      have z : c = sc.heap.objs.size := z
      rw [z] at ho
      exact Nat.lt_irrefl _ (Heap.lt_size ho), pin1⟩
  have S0 : LSt X pins G H1 a gi go oL (.fresh c) 0 σ H1 s1 := by
    refine ⟨by rw [gL]; exact Ip, cl_same, hgf, fun s2 W2 => ⟨rfl, ?_⟩⟩
    subst hG
    exact hseg X.A.in1 s2 hr.in1 hh W2
  refine codeAny_forLoop_any (fun q s' => ∃ j σ Hc oL gs, q = n - j ∧ j ≤ n ∧ W j σ Hc ∧ LSt X pins G H1 a gi go oL gs j σ Hc s') ?_ (n - 0) ⟨0, σ, H1, oL, _, rfl, Nat.zero_le _, w0, S0⟩
  rintro q s2 ⟨j, σ2, Hc, oL2, gs2, rfl, hj, wj, S⟩
  refine thn (turnG F (by rw [gI]; exact mono) gA rfl hh hr.depth hgen (by rw [gL]; exact hLa) (by rw [gn]; exact hj) S) fun r s3 hq => ?_
  cases r with
  | none =>
    obtain ⟨ej, H', sm, I3⟩ := hq
    have ej : j = G.n := ej
    rw [gn] at ej
    subst ej
    exact wpAny_execs_nil ⟨σ2, H', I3, done σ2 Hc H' wj sm⟩
  | some v =>
    obtain ⟨hlt, x, H', oL3, gs3, rv, sm, hit, hu, S3⟩ := hq
    rw [gn] at hlt
    rw [gI] at hit
    have I3 := S3.inv
    have ao : s3.heap.get? a = some go := (I3.pin (a, go) (by simp)).1
    refine ownedGo (hgen _ ao) ?_
    have no : ∀ {α : Type} {t : Sem α} {Q : α → Shared → Prop} {s : Shared}, wpAny (model X.prog X.w) X.A t Q X.xe s → wpAny (model X.prog X.w) X.A t Q (fun _ _ => False) s := fun {α t Q s} h => by rw [hx] at h; exact h
    have bare3 := I3.bare
    refine wpAny_mono (asleep (no (hg.run _ (shut s3) σ2 H' x v _ (inv_shut I3) rv (turn j σ2 Hc x H' hlt wj sm hit))) S3.at_ hu fun _ s' ⟨σ', H2, J, z⟩ => ⟨σ', H2, inv_pt J bare3, z⟩) (fun _ s4 h4 => ?_) fun _ _ z => z
    obtain ⟨g4, σ4, H4, I4, z4⟩ := h4
    have bare4 := I4.bare
    refine wpAny_mono (asleep (no (hb.run _ (shut s4) σ4 H4 _ (inv_shut I4) z4)) g4 hu fun _ s' z => sp_pt z bare4) (fun fl s5 h5 => ?_) fun _ _ z => z
    obtain ⟨g5, h5⟩ := h5
    have again : ∀ {σ5 : L2.St} {H5 : Hp}, Inv X (pins ++ [(G.L, oL3), (a, go)]) σ5 H5 s5 → W (j + 1) σ5 H5 → ∃ m, m < n - j ∧ ∃ j σ Hc oL gs, m = n - j ∧ j ≤ n ∧ W j σ Hc ∧ LSt X pins G H1 a gi go oL gs j σ Hc s5 := fun {σ5 H5} I5 w5 =>
      ⟨n - (j + 1), by omega, j + 1, σ5, H5, oL3, gs3, rfl, hlt, w5, I5, wsm _ _ _ w5, g5, S3.wk⟩
    cases fl with
    | next => obtain ⟨σ5, H5, I5, w5⟩ := h5; exact again I5 w5
    | cont => obtain ⟨σ5, H5, I5, w5⟩ := h5; exact again I5 w5
    | brk => obtain ⟨σ5, H5, I5, w5⟩ := h5; exact ⟨σ5, H5, I5.unpinned, w5⟩
    | ret u => obtain ⟨v5, σ5, H5, I5, r5, w5⟩ := h5; exact ⟨v5, σ5, H5, I5.unpinned, r5, w5⟩
end
end Gg

namespace Gg
open PySem PySem.Spec PyProof.Rows GenW L2
open Gk (sus Slp pt shut wpAny_slp)
/-! ### [elt for target in f(..)], f a generator def -/
def tLcG (tg : TGF) (g : TG) (te : TE) (vs : List Nat) : TE := fun σ H Q => tg σ H fun H1 n It => ∀ D, H1 D = none → ∃ W : Nat → Hp → Prop, W 0 (upd H1 D (.lst [])) ∧ (∀ j H, W j H → Same (cl H1) H) ∧
  (∀ j H x H', j < n → W j H → Same H H' → It j x H' → g x (wipe σ vs) H' fun σ2 H2 => wipe σ2 vs = wipe σ vs ∧ te σ2 H2 fun y H4 => ∃ acc, H4 D = some (.lst acc) ∧ acc.length < sizeLine ∧ W (j + 1) (upd H4 D (.lst (acc ++ [y])))) ∧ ∀ H H', W n H → Same H H' → Q (.ref D) H'
section
variable {X : Cx}
theorem pe_lcG {k : Nat} {elt tgt iter : Expr} {scope : Scope} {own : List (Str × Nat)} {pos : Pos} {tg : TGF} {g : TG} {te : TE} (hc : X.calm = true) (hN : X.N.Nodup) (hr : Room (k + 1) X.A) (hi : PGenF X k iter tg) (ok : BlkOk X.N X.env.scope scope own)
    (hg : ∀ (s : Shared) (H : Hp) (C : Addr) (cl : List (Str × Addr)) (fp : List Addr), PG (X.blk s H scope (compEnvC scope cl C X.env) fp) tgt g)
    (he : ∀ (s : Shared) (H : Hp) (C : Addr) (cl : List (Str × Addr)) (fp : List Addr), PE (X.blk s H scope (compEnvC scope cl C X.env) fp) elt te) (hs : ∀ x, foldedSetIterable iter X.env x = pure x := by intro _; rfl) :
    PE X (.ListComp elt [⟨tgt, iter, [], 0⟩] scope pos) (tLcG tg g te (own.map (·.2))) := by
  refine ⟨fun pins s σ H Q I h => ?_⟩
  rw [eval_ListComp]
  have hfree : ∀ y ∈ scope.names, y.2 = .free → ∃ c, X.env.cells.lookup y.1 = some c := fun y hy e => (ok.free y hy e).elim (fun z => I.ok.has _ (.inl z)) fun z => I.ok.has _ (.inr z)
  refine wpAny_comprehension_free (use := none) rfl hs (closure_ok hfree) ok.kind (fun y hy e => by rw [ok.uniq y hy, e]) (thn (hi.run pins s σ H _ I h) fun u s1 h1 => ?_)
  obtain ⟨H1, sc, n, It, N, qual, sco, f, cd, I1, ⟨a, gi, c, oL, go, rfl, hLa, hao, hgen, hgc, hgf, hos, hba, hkp, hLo, hLc, hok1, hseg⟩, mono, q⟩ := h1
  refine wpAny_pyIter_gen (hgen _ hao) ?_
  refine wpAny_newObj_type (newEnv_comp ?_) (by show 0 ≤ sizeLine; decide)
  have hh : X.A.handled = none := I1.ok.hd hc
  have Is : Inv X pins σ H1 s1 := I1.call' (ch := []) hos (Un.kept hkp) (I1.hok.kept hkp) hba fun b z => absurd z (by simp)
  have nL : H1 sc.heap.objs.size = none := I1.hok.fresh (Nat.le_refl _)
  have nA : H1 a = none := I1.hok.fresh (Nat.le_of_lt hLa)
  have kl := I1.lt
  generalize hD : s1.heap.objs.size = D
  have hDn : H1 D = none := Is.hok.fresh (Nat.le_of_eq hD)
  obtain ⟨W, w0, wsm, turn, done⟩ := q D hDn
  have aD : a < D := by rw [← hD]; exact Heap.lt_size hao
  have LD : sc.heap.objs.size < D := Nat.lt_trans hLa aD
  -- the new list
  generalize hs3 : ({ s1 with heap := s1.heap.push { cls := .type "list", data := .seq ([] : List Value).toArray } } : Shared) = s3
  have h3 : s3.heap = s1.heap.push { cls := .type "list", data := .seq ([] : List Value).toArray } := by rw [← hs3]
  have I3 : Inv X pins σ (upd H1 D (.lst [])) s3 := by
    rw [← hs3]
    refine Is.laid (t' := s1.toks) (fun b o e => Heap.get?_push_of_some _ e) (Nat.le_of_eq hD) ⟨Nat.zero_le _, [], 0, .nil, ?_⟩
    rw [← hD]
    exact Heap.get?_push_size _ rfl
  have z3 : s3.heap.objs.size = D + 1 := by rw [h3, Heap.size_push, hD]
  have f3 : ∀ b ∈ [sc.heap.objs.size], FpOk X pins (upd H1 D (.lst [])) b ∧ b < s3.heap.objs.size := fun b hb => by
    rw [List.mem_singleton.mp hb, z3]
    refine ⟨⟨by rw [upd_ne (Nat.ne_of_lt LD)]; exact nL, Nat.ne_of_gt kl, I1.nofs (Nat.le_refl _), .inr I1.sz, fun x c e z => ?_, fun p hp => Nat.ne_of_lt (Heap.lt_size (I1.pin p hp).1)⟩, Nat.lt_succ_of_lt LD⟩
    obtain ⟨v, o, ho, _⟩ := I1.cell x c e
    rw [z] at ho
    exact Nat.lt_irrefl _ (Heap.lt_size ho)
  have I4 := block_start I3 ok hN f3
  have pg := hg s3 (upd H1 D (.lst [])) s3.heap.objs.size (cellsFrom (s3.heap.objs.size + 1) scope.names (cloFrom X.env.cells scope.names [])) [sc.heap.objs.size]
  have pe := he s3 (upd H1 D (.lst [])) s3.heap.objs.size (cellsFrom (s3.heap.objs.size + 1) scope.names (cloFrom X.env.cells scope.names [])) [sc.heap.objs.size]
  show codeAny _ _ (.compStart (.ListComp elt [⟨tgt, iter, [], 0⟩] scope pos) 0 (.ref a) (.ref D) (compEnvC scope (cellsFrom (s3.heap.objs.size + 1) scope.names (cloFrom X.env.cells scope.names [])) s3.heap.objs.size X.env)) (compPost (model X.prog X.w) X.A X.xe none (EP X pins σ Q) (.ref D) s3.heap.objs.size) { s3 with heap := pushCells (s3.heap.push { cls := .type "dict", data := .dict #[] }) scope.names }
  generalize hce : compEnvC scope (cellsFrom (s3.heap.objs.size + 1) scope.names (cloFrom X.env.cells scope.names [])) s3.heap.objs.size X.env = ce at I4 pg pe ⊢
  have cL : ce.locals = s3.heap.objs.size := by subst hce; rfl
  have kp4 : ∀ b o, s1.heap.get? b = some o → (pushCells (s3.heap.push { cls := .type "dict", data := .dict #[] }) scope.names).get? b = some o := fun b o e => pushCells_keeps _ _ _ _ (Heap.get?_push_of_some _ (by rw [h3]; exact Heap.get?_push_of_some _ e))
  have gf4 : ({ s3 with heap := pushCells (s3.heap.push { cls := .type "dict", data := .dict #[] }) scope.names } : Shared).gens[gi]? = some (.fresh c) := by rw [← hs3]; exact hgf
  generalize hs4 : ({ s3 with heap := pushCells (s3.heap.push { cls := .type "dict", data := .dict #[] }) scope.names } : Shared) = s4 at I4 gf4 ⊢
  have k4 : ∀ b o, s1.heap.get? b = some o → s4.heap.get? b = some o := fun b o e => by rw [← hs4]; exact kp4 b o e
  generalize hXb : X.blk s3 (upd H1 D (.lst [])) scope ce [sc.heap.objs.size] = Xb at I4 pg pe
  have xb : Xb.prog = X.prog ∧ Xb.w = X.w ∧ Xb.A = X.A ∧ Xb.env = ce ∧ Xb.xe = (fun _ _ => False) ∧ Xb.stack = X.stack ∧ Xb.pn = [] ∧ Xb.ex = [sc.heap.objs.size] ∧ Xb.outer = X.stack := by subst hXb; exact ⟨rfl, rfl, rfl, rfl, rfl, rfl, rfl, rfl, rfl⟩
  generalize hG : gdOf X.prog X.w X.K X.mg X.base N qual sco f cd X.stack sc.heap.objs.size (cl H1) n It X.A.in1 = G at *
  have gn : G.n = n := by rw [← hG] <;> rfl
  have gI : G.It = It := by rw [← hG] <;> rfl
  have gL : G.L = sc.heap.objs.size := by rw [← hG] <;> rfl
  have gA : G.A = X.A.in1 := by rw [← hG] <;> rfl
  have hokG : GOk G := by rw [← hG]; exact hok1 X.A.in1 hh
  have Lo4 : s4.heap.get? sc.heap.objs.size = some oL := k4 _ _ hLo
  have F : Fit Xb [] G H1 := by
    have hcells : ∀ x c, Xb.env.cells.lookup x = some c → c ≠ sc.heap.objs.size := fun x c e z => by
      obtain ⟨v, o, ho, hd⟩ := I4.cell x c e
      rw [z, Lo4] at ho
      cases ho
      exact hLc v hd
    have hloc : sc.heap.objs.size ≠ Xb.env.locals := by
      rw [xb.2.2.2.1, cL, z3]
      exact Nat.ne_of_lt (Nat.lt_succ_of_lt LD)
    subst hXb
    subst hG
    exact ⟨rfl, rfl, rfl, rfl, rfl, rfl, rfl, ⟨_, I1.hok⟩, hokG, .inl List.mem_cons_self, hloc, hcells, fun p hp => absurd (show p ∈ ([] : List (Addr × Obj)) from hp) (by simp)⟩
  have frX : ∀ b, sc.heap.objs.size ≤ b → b ∉ frs X.stack := fun b hb z => by
    rcases List.mem_cons.mp (I1.stkSub b z) with y | y
    · rw [y] at hb
      exact absurd (Nat.lt_of_lt_of_le kl hb) (Nat.lt_irrefl _)
    · exact I1.nofs hb y
  have S0 : LSt Xb [] G H1 a gi go oL (.fresh c) 0 (wipe σ (own.map (·.2))) (upd H1 D (.lst [])) s4 := by
    refine ⟨Inv.pins_of I4 fun p hp => ?_, fun b o e => ?_, gf4, fun s2 W2 => ⟨rfl, ?_⟩⟩
    · have hfs : ∀ b, sc.heap.objs.size ≤ b → b ∉ Xb.fs := fun b hb z => frX b hb (by rw [← xb.2.2.2.2.2.2.2.2]; exact z)
      have hloc : ∀ b, b < D → b ≠ Xb.env.locals := fun b hb => by
        rw [xb.2.2.2.1, cL, z3]
        exact Nat.ne_of_lt (Nat.lt_succ_of_lt hb)
      rcases List.mem_cons.mp hp with z | z
      · rw [z, gL]
        exact ⟨Lo4, by rw [upd_ne (Nat.ne_of_lt LD)]; exact nL, hloc _ LD, hfs _ (Nat.le_refl _), hLc⟩
      · rw [List.mem_singleton.mp z]
        exact ⟨k4 _ _ hao, by rw [upd_ne (Nat.ne_of_lt aD)]; exact nA, hloc _ aD, hfs _ (Nat.le_of_lt hLa), hgc⟩
    · rw [upd_ne (fun z => by rw [z] at e; rw [cl_sub e] at hDn; cases hDn)]
      exact cl_sub e
    · subst hG
      exact hseg X.A.in1 s2 hr.in1 hh W2
  have loop : codeAny (model X.prog X.w) X.A (.compLoop (.ListComp elt [⟨tgt, iter, [], 0⟩] scope pos) 0 (.ref a) (.ref D) ce) (compPost (model X.prog X.w) X.A X.xe none (EP X pins σ Q) (.ref D) s3.heap.objs.size) s4 := by
    refine compLoop_any (fun q s' => ∃ j Hc oL gs, q = n - j ∧ j ≤ n ∧ W j Hc ∧ LSt Xb [] G H1 a gi go oL gs j (wipe σ (own.map (·.2))) Hc s') ?_ (n - 0) ⟨0, _, oL, _, rfl, Nat.zero_le _, w0, S0⟩
    rintro q s5 ⟨j, Hc, oL5, gs5, rfl, hj, wj, S⟩
    have tn := turnG (A := X.A) (E := fun _ _ => False) F (by rw [gI]; exact mono) gA (by rw [xb.2.2.1]) hh hr.depth hgen (by rw [gL]; exact hLa) (by rw [gn]; exact hj) S
    rw [xb.1, xb.2.1] at tn
    refine thnF tn fun r s6 hq => ?_
    cases r with
    | none =>
      obtain ⟨ej, H', sm, I6⟩ := hq
      have ej : j = G.n := ej
      rw [gn] at ej
      subst ej
      subst hXb
      have I7 : Inv X pins σ H' s6 := I3.call' (ch := [sc.heap.objs.size]) I6.os I6.base I6.hok I6.bare fun b hb => ⟨(f3 b hb).1.2.2.2.1, (f3 b hb).1.2.1, (f3 b hb).1.2.2.2.2.1, (f3 b hb).1.2.2.2.2.2⟩
      have nC : H' s3.heap.objs.size = none := by
        have z : H' ce.locals = none := I6.free
        rw [cL] at z
        exact z
      obtain ⟨m, hn, _⟩ := I6.loc
      have hn : s6.heap.Ns ce.locals m := hn
      rw [cL] at hn
      obtain ⟨g0, g1, g2, g3, g4, g5⟩ := I3.fpOk (Nat.le_refl _) nC
      exact ⟨m, hn, fun h2 sb => ⟨.ref D, H', I7.turned (t' := s6.toks) (fun b o hb e => (sb.2 b hb).trans e) g0 g1 g3 g4 g5, rfl, done Hc H' wj sm⟩⟩
    | some v =>
      obtain ⟨hlt, x, H', oL6, gs6, rv, sm, hit, hu, S6⟩ := hq
      rw [gn] at hlt
      rw [gI] at hit
      have I6 := S6.inv
      have ao : s6.heap.get? a = some go := (I6.pin (a, go) (by simp)).1
      refine ownedGo (hgen _ ao) ?_
      have xe : Xb.xe = fun _ _ => False := xb.2.2.2.2.1
      have bare6 := I6.bare
      have r1 := pg.run _ (shut s6) _ H' x v _ (inv_shut I6) rv (turn j Hc x H' hlt wj sm hit)
      rw [xe] at r1
      have r1 := asleep (E := fun _ _ => False) r1 S6.at_ hu fun _ s' ⟨σ', H2, J, z⟩ => ⟨σ', H2, inv_pt J bare6, z⟩
      rw [xb.1, xb.2.1, xb.2.2.1, xb.2.2.2.1] at r1
      refine thnF r1 fun _ s7 ⟨g7, σ7, H7, I7, hw7, z7⟩ => ?_
      refine wpAny_pure ?_
      rw [if_pos rfl]
      have bare7 := I7.bare
      have r2 := pe.run _ (shut s7) _ H7 _ (inv_shut I7) z7
      rw [xe] at r2
      have r2 := asleep (E := fun _ _ => False) r2 g7 hu fun _ s' ⟨v', H2, J, r, z⟩ => ⟨v', H2, inv_pt J bare7, r, z⟩
      rw [xb.1, xb.2.1, xb.2.2.1, xb.2.2.2.1] at r2
      refine thnF r2 fun y s8 ⟨g8, yv, H8, I8, r8, acc, hD8, hz8, w8⟩ => ?_
      have bare8 := I8.bare
      have r3 := asleep (X := Xb) (E := fun _ _ => False) (A := Xb.A) (app_ok (X := Xb) (E := fun _ _ => False) (D := D) (v := y) (Q := fun _ s' => Inv Xb ([] ++ [(G.L, oL6), (a, go)]) σ7 (upd H8 D (.lst (acc ++ [yv]))) s') (inv_shut I8) hD8 hz8 r8 fun s' J => J) g8 hu fun _ s' J => inv_pt J bare8
      rw [xb.1, xb.2.1, xb.2.2.1] at r3
      refine thnF r3 fun _ s9 ⟨g9, I9⟩ => ?_
      have hl : (wipe σ (own.map (·.2))).length = σ7.length := by rw [← hw7, wipe_length]
      refine ⟨n - (j + 1), by omega, j + 1, _, oL6, gs6, rfl, hlt, w8, Inv.weak I9 hl (fun i v e => ?_), wsm _ _ w8, g9, S6.wk⟩
      rw [← hw7] at e
      exact (wipe_some e).1
  exact codeAny_compStart_list loop (wpAny_pyIter_gen (hgen _ (k4 _ _ hao)) loop)
end
end Gg

namespace L2
open PySem PySem.Spec PyProof.Rows Gg
/-! ## walks: the rows of a web, the questions that are answered right -/
def rowP (rows : List (List Int)) (p : Int) : List Int := (rows[p.toNat]?).getD []
def qP (rows : List (List Int)) (p : Int) : Int := ((rowP rows p)[0]?).getD 0
def aP (rows : List (List Int)) (R : List Int) (p : Int) : Int := if qP rows p ∈ norm R then 1 else 0
def tRow (row : List Int) (a : Int) : Int := if a = 1 then (row[1]?).getD 0 else (row[2]?).getD 0
def nxP (rows : List (List Int)) (R : List Int) (p : Int) : Int := tRow (rowP rows p) (aP rows R p)
def itP (rows : List (List Int)) (R : List Int) (p : Int) : List Int := [p, qP rows p, aP rows R p]
def wl (rows : List (List Int)) (R : List Int) : Nat → Int → List (List Int)
  | 0, _ => []
  | k + 1, p => if p < 0 then [] else itP rows R p :: wl rows R k (nxP rows R p)
def we (rows : List (List Int)) (R : List Int) : Nat → Int → Int
  | 0, p => p
  | k + 1, p => if p < 0 then p else we rows R k (nxP rows R p)
def WK (rows : List (List Int)) (R : List Int) (p : Int) : List (List Int) := wl rows R rows.length p
def WN (rows : List (List Int)) (R : List Int) (p : Int) : Int := -1 - we rows R rows.length p
theorem row3 {rows : List (List Int)} {e o p : Int} (G : GoodW rows e o) (p0 : 0 ≤ p) (p1 : p < rows.length) : ∃ q t1 t2 r, rowP rows p = q :: t1 :: t2 :: r ∧ rows[p.toNat]? = some (rowP rows p) ∧ 0 ≤ q ∧ q < 48 ∧ (-e ≤ t1 ∧ t1 < rows.length ∧ ¬ (0 ≤ t1 ∧ t1 ≤ p)) ∧ (-e ≤ t2 ∧ t2 < rows.length ∧ ¬ (0 ≤ t2 ∧ t2 ≤ p)) := by
  have hl : p.toNat < rows.length := by omega
  have hr : rows[p.toNat]? = some rows[p.toNat] := List.getElem?_eq_getElem hl
  have e1 : rowP rows p = rows[p.toNat] := by unfold rowP; rw [hr] <;> rfl
  obtain ⟨q, r, hq, hlen, q0, q1, ht⟩ := G.row _ _ hr
  have ep : ((p.toNat : Nat) : Int) = p := by omega
  rw [e1, hq]
  rcases r with _ | ⟨t1, _ | ⟨t2, r⟩⟩
  · simp at hlen
  · simp at hlen
  · have h1 := ht t1 (by simp)
    have h2 := ht t2 (by simp)
    rw [ep] at h1 h2
    exact ⟨q, t1, t2, r, rfl, by rw [hr, hq], q0, q1, h1, h2⟩
theorem nxP_ok {rows : List (List Int)} {R : List Int} {e o p : Int} (G : GoodW rows e o) (p0 : 0 ≤ p) (p1 : p < rows.length) : -e ≤ nxP rows R p ∧ nxP rows R p < rows.length ∧ (nxP rows R p < 0 ∨ p < nxP rows R p) := by
  obtain ⟨q, t1, t2, r, hr, _, _, _, h1, h2⟩ := row3 G p0 p1
  unfold nxP tRow
  rw [hr]
  split
  · show -e ≤ t1 ∧ t1 < _ ∧ (t1 < 0 ∨ p < t1)
    omega
  · show -e ≤ t2 ∧ t2 < _ ∧ (t2 < 0 ∨ p < t2)
    omega
theorem wl_neg {rows : List (List Int)} {R : List Int} {p : Int} (h : p < 0) : ∀ k, wl rows R k p = []
  | 0 => rfl
  | k + 1 => by unfold wl; rw [if_pos h]
theorem we_neg {rows : List (List Int)} {R : List Int} {p : Int} (h : p < 0) : ∀ k, we rows R k p = p
  | 0 => rfl
  | k + 1 => by unfold we; rw [if_pos h]
theorem wl_fuel {rows : List (List Int)} {R : List Int} {e o : Int} (G : GoodW rows e o) : ∀ (k : Nat) (p : Int), p < rows.length → 0 ≤ p → (rows.length : Int) - p ≤ k → wl rows R (k + 1) p = wl rows R k p ∧ we rows R (k + 1) p = we rows R k p
  | 0, p, h1, h0, h2 => by omega
  | k + 1, p, h1, h0, h2 => by
    have hn : ¬ p < 0 := by omega
    obtain ⟨n1, n2, n3⟩ := nxP_ok (R := R) G h0 h1
    rw [wl, if_neg hn, show wl rows R (k + 1) p = itP rows R p :: wl rows R k (nxP rows R p) by rw [wl, if_neg hn], we, if_neg hn, show we rows R (k + 1) p = we rows R k (nxP rows R p) by rw [we, if_neg hn]]
    rcases n3 with n3 | n3
    · rw [wl_neg n3, wl_neg n3, we_neg n3, we_neg n3]
      exact ⟨rfl, rfl⟩
    · obtain ⟨i1, i2⟩ := wl_fuel (R := R) G k (nxP rows R p) n2 (by omega) (by omega)
      rw [i1, i2]
      exact ⟨rfl, rfl⟩
theorem wl_more {rows : List (List Int)} {R : List Int} {e o p : Int} (G : GoodW rows e o) (h1 : p < rows.length) : ∀ (d k : Nat), (rows.length : Int) - p ≤ k → 0 ≤ p → wl rows R (k + d) p = wl rows R k p ∧ we rows R (k + d) p = we rows R k p
  | 0, k, _, _ => ⟨rfl, rfl⟩
  | d + 1, k, h2, h0 => by
    obtain ⟨a, b⟩ := wl_more (R := R) G h1 d k h2 h0
    obtain ⟨c, d'⟩ := wl_fuel (R := R) G (k + d) p h1 h0 (by omega)
    exact ⟨c.trans a, d'.trans b⟩
theorem WK_neg {rows : List (List Int)} {R : List Int} {p : Int} (h : p < 0) : WK rows R p = [] := wl_neg h _
theorem WN_neg {rows : List (List Int)} {R : List Int} {p : Int} (h : p < 0) : WN rows R p = -1 - p := by unfold WN; rw [we_neg h]
theorem WK_cons {rows : List (List Int)} {R : List Int} {e o p : Int} (G : GoodW rows e o) (p0 : 0 ≤ p) (p1 : p < rows.length) : WK rows R p = itP rows R p :: WK rows R (nxP rows R p) ∧ WN rows R p = WN rows R (nxP rows R p) := by
  obtain ⟨n1, n2, n3⟩ := nxP_ok (R := R) G p0 p1
  have hn : ¬ p < 0 := by omega
  unfold WK WN
  obtain ⟨m, hm⟩ : ∃ m, rows.length = m + 1 := ⟨rows.length - 1, by omega⟩
  have e1 : wl rows R rows.length p = itP rows R p :: wl rows R m (nxP rows R p) := by rw [hm, wl, if_neg hn]
  have e2 : we rows R rows.length p = we rows R m (nxP rows R p) := by rw [hm, we, if_neg hn]
  rw [e1, e2]
  rcases n3 with n3 | n3
  · rw [wl_neg n3, wl_neg n3, we_neg n3, we_neg n3]
    exact ⟨rfl, rfl⟩
  · obtain ⟨i1, i2⟩ := wl_fuel (R := R) G m (nxP rows R p) n2 (by omega) (by omega)
    have hm' : wl rows R rows.length (nxP rows R p) = wl rows R (m + 1) (nxP rows R p) := by rw [hm]
    have hm2 : we rows R rows.length (nxP rows R p) = we rows R (m + 1) (nxP rows R p) := by rw [hm]
    rw [hm', hm2, i1, i2]
    exact ⟨rfl, rfl⟩
theorem wl_len {rows : List (List Int)} {R : List Int} : ∀ (k : Nat) (p : Int), (wl rows R k p).length ≤ k
  | 0, _ => Nat.le_refl _
  | k + 1, p => by
    unfold wl
    split
    · exact Nat.zero_le _
    · rw [List.length_cons]
      exact Nat.succ_le_succ (wl_len k _)
theorem WK_len {rows : List (List Int)} {R : List Int} {p : Int} : (WK rows R p).length ≤ rows.length := wl_len _ _
theorem we_end {rows : List (List Int)} {R : List Int} {e o : Int} (G : GoodW rows e o) : ∀ (k : Nat) (p : Int), -e ≤ p → p < rows.length → (0 ≤ p → (rows.length : Int) - p ≤ k) → -e ≤ we rows R k p ∧ we rows R k p < 0
  | 0, p, h1, h2, h3 => by
    have : p < 0 := by omega
    exact ⟨h1, this⟩
  | k + 1, p, h1, h2, h3 => by
    unfold we
    split
    · exact ⟨h1, ‹_›⟩
    · obtain ⟨n1, n2, n3⟩ := nxP_ok (R := R) G (by omega) h2
      exact we_end G k _ n1 n2 fun h => by omega
theorem WN_ok {rows : List (List Int)} {R : List Int} {e o p : Int} (G : GoodW rows e o) (h1 : -e ≤ p) (h2 : p < rows.length) : 0 ≤ WN rows R p ∧ WN rows R p < e := by
  obtain ⟨a, b⟩ := we_end (R := R) G rows.length p h1 h2 fun h => by omega
  unfold WN
  omega
/-- a generator's statements for list(g), with what is known between them -/
def tGCut (t u : TGn) : TGn := fun D ys σ H => ∃ R : List V → St → Hp → Prop, t { D with nx := R } ys σ H ∧ ∀ ys σ H, R ys σ H → u D ys σ H
theorem gss_cutL {X : Cx} {st : Stmt} {rest : List Stmt} {t u : TGn} (a : L2.GS X st t) (b : L2.GSs X rest u) : L2.GSs X (st :: rest) (tGCut t u) :=
  ⟨fun A S ip R n ys s0 c fs Kf J gd lv s σ H D g hn k hI ⟨Rc, ht, hu⟩ => by
    refine seg_execs_cons (a.run A S ip R n ys s0 c fs _ J gd lv s σ H { D with nx := Rc } g hn ⟨fun n2 ys2 s02 s2 fl hn2 hs => ?_, k.exc⟩ hI ht)
    cases fl with
    | next =>
      obtain ⟨σ2, H2, I2, q⟩ := hs
      exact b.run A S ip R n2 ys2 s02 c fs Kf J gd lv s2 σ2 H2 D g hn2 k I2 (hu _ _ _ q)
    | brk => exact k.ok n2 ys2 s02 s2 .brk hn2 hs
    | cont => exact k.ok n2 ys2 s02 s2 .cont hn2 hs
    | ret v => exact k.ok n2 ys2 s02 s2 (.ret v) hn2 hs⟩
/-! ### promises -/
def ItW (l : List (List Int)) : Nat → V → Hp → Prop := fun j x H => ∃ t row, l[j]? = some row ∧ x = .ref t ∧ H t = some (.tup (row.map V.int))
theorem itW_mono (l : List (List Int)) : Mono (ItW l) := fun j x H H' ⟨t, row, h1, h2, h3⟩ e => ⟨t, row, h1, h2, e _ _ h3 fun φ z => by cases z⟩
def StV (v : V) (o z : Int) : Prop := (v = .non ∧ z = o) ∨ v = .int z
def spWalkF (C CP : Addr) : SpF := fun vs H n It => ∃ (web pu : Addr) (v : V) (rows : List (List Int)) (R : List Int) (e o z : Int), vs = [.ref web, .ref pu, v] ∧ WebAt C H web rows e o ∧ GoodW rows e o ∧ PupAt CP H pu R ∧ StV v o z ∧ -e ≤ z ∧ z < rows.length ∧ n = (WK rows R z).length ∧ It = ItW (WK rows R z)
def spWalkL (C CP CN : Addr) : SpG := fun vs H Q E => ∃ (web pu : Addr) (v : V) (rows : List (List Int)) (R : List Int) (e o z : Int), vs = [.ref web, .ref pu, v] ∧ WebAt C H web rows e o ∧ GoodW rows e o ∧ PupAt CP H pu R ∧ StV v o z ∧ Bd z ∧
  ((-e ≤ z ∧ z < rows.length) → ∀ H' as, Same H H' → RowsAt H' as (WK rows R z) → Q (as.map V.ref) H') ∧
  (¬ (-e ≤ z ∧ z < rows.length) → ∀ d H', H d = none → Same H H' → H' d = some (.xd [("place", .int z)]) → E (.ref CN) (some d) H')
def spBegin (C CN : Addr) : Sp := fun vs H Q E => ∃ (web : Addr) (v : V) (rows : List (List Int)) (e o z : Int), vs = [.ref web, v] ∧ WebAt C H web rows e o ∧ StV v o z ∧ Bd z ∧
  ((-e ≤ z ∧ z < rows.length) → Q (.int z) H) ∧ (¬ (-e ≤ z ∧ z < rows.length) → ∀ d H', H d = none → Same H H' → H' d = some (.xd [("place", .int z)]) → E (.ref CN) (some d) H')
def spTgt : Sp := fun vs H Q _ => ∃ (t : Addr) (row : List Int) (x : Int), vs = [.ref t, .int x] ∧ H t = some (.tup (row.map V.int)) ∧ 3 ≤ row.length ∧ Q (.int (tRow row x)) H
def spEnd (C CP CN : Addr) : Sp := fun vs H Q E => ∃ (web pu : Addr) (v : V) (rows : List (List Int)) (R : List Int) (e o z : Int), vs = [.ref web, .ref pu, v] ∧ WebAt C H web rows e o ∧ GoodW rows e o ∧ PupAt CP H pu R ∧ StV v o z ∧ Bd z ∧
  ((-e ≤ z ∧ z < rows.length) → ∀ H', Same H H' → Q (.int (WN rows R z)) H') ∧
  (¬ (-e ≤ z ∧ z < rows.length) → ∀ d H', H d = none → Same H H' → H' d = some (.xd [("place", .int z)]) → E (.ref CN) (some d) H')
def spRun (C CP : Addr) : Sp := fun vs H Q _ => ∃ (web pu : Addr) (rows : List (List Int)) (R : List Int) (e o : Int), vs = [.ref web, .ref pu] ∧ WebAt C H web rows e o ∧ GoodW rows e o ∧ PupAt CP H pu R ∧
  ∀ H' t as, Same H H' → H' t = some (.tup (as.map V.ref)) → RowsAt H' as ((WK rows R o).map List.tail) → Q (.ref t) H'
theorem WebAt.clH {C : Addr} {H : Hp} {x : Addr} {rows : List (List Int)} {e o : Int} (h : WebAt C H x rows e o) : WebAt C (cl H) x rows e o := by
  obtain ⟨dx, nt, as, h1, h2, h3, h4⟩ := h
  exact ⟨dx, nt, as, cl_ins h1, cl_tup h2, h3, fun i a row u v => cl_tup (h4 i a row u v)⟩
theorem PupAt.clH {C : Addr} {H : Hp} {x : Addr} {l : List Int} (h : PupAt C H x l) : PupAt C (cl H) x l := by
  obtain ⟨dx, t, h1, h2⟩ := h
  exact ⟨dx, t, cl_ins h1, cl_tup h2⟩
theorem RowsAt.snoc {H : Hp} {as : List Addr} {rows : List (List Int)} {x : Addr} {row : List Int} (h : RowsAt H as rows) (hx : H x = some (.tup (row.map V.int))) : RowsAt H (as ++ [x]) (rows ++ [row]) := by
  obtain ⟨h1, h2⟩ := h
  refine ⟨by rw [List.length_append, List.length_append, h1] <;> rfl, fun i b r e1 e2 => ?_⟩
  by_cases hi : i < as.length
  · rw [List.getElem?_append_left hi] at e1
    rw [List.getElem?_append_left (by rw [← h1]; exact hi)] at e2
    exact h2 i b r e1 e2
  · have hi2 : i = as.length := by
      have := (List.getElem?_eq_some_iff.mp e1).1
      rw [List.length_append, List.length_singleton] at this
      omega
    subst hi2
    rw [List.getElem?_append_right (Nat.le_refl _), Nat.sub_self] at e1
    rw [h1, List.getElem?_append_right (Nat.le_refl _), Nat.sub_self] at e2
    cases e1
    cases e2
    exact hx
theorem gfnL_of {P : Program} {w : World} {K : PySem.W.Frag} {mg : Str → Option Value} {base : Heap} {k : Nat} {f : Addr} {x qual : Str} {params : Arguments} {body : List Stmt} {scope : Scope} {dvs : List V} {kws : List (Str × V)} {fd : FuncData} {N ps : List Str} {sp : SpG}
    (F : FunD K x qual params body scope dvs kws f fd) (S : GScope N ps scope) (len : ∀ vs H Q E, sp vs H Q E → vs.length = ps.length)
    (hb : ∀ (cdv : Value) (A : Around) (outer : List Env) (s : Shared) (H : Hp) (vs : List V) (Q : List V → Hp → Prop) (E : XK) (pn : List (Addr × Obj)), Room k (A.deeper (envOfC qual scope s.heap.objs.size f cdv)) → sp vs H Q E →
      ∃ t, L2.GSs (gcxOf P w K mg base N qual scope f cdv A outer s H E pn) body t ∧ t { nx := fun ys _ H' => Q ys H', rt := fun ys v H' => v = .non ∧ Q ys H' } [] (start N vs) H) : GFn P w K mg base (k + 1) f fd ps sp := by
  obtain ⟨oc, od, dV, kV, doc, pm, an, cdv, ct, osl, rfl, lk, hcd, _, _⟩ := F.ex
  exact gfn_of lk hcd S len fun A outer s H vs Q E pn hr hsp => hb cdv A outer s H vs Q E pn hr hsp
end L2

namespace L2
open PySem PySem.Spec PyProof.Rows Gg
/-! ## lists of rows -/
theorem shLs (rows : List (List Int)) : SeqAt.shaped (.list (rows.map rowD)) = true := by
  have := depth_rows rows
  simp [SeqAt.shaped, PyData.canLay0, canLay_rows, PyData.depth]
  omega
def LsAt (H : Hp) (p : Addr) (rows : List (List Int)) : Prop := ∃ as, H p = some (.lst (as.map V.ref)) ∧ RowsAt H as rows
def TsAt (H : Hp) (p : Addr) (rows : List (List Int)) : Prop := ∃ as, H p = some (.tup (as.map V.ref)) ∧ RowsAt H as rows
theorem LsAt.same {H H' : Hp} {p : Addr} {rows : List (List Int)} (e : Same H H') (h : LsAt H p rows) : LsAt H' p rows := let ⟨as, a, b⟩ := h; ⟨as, e _ _ a, b.same e⟩
theorem TsAt.same {H H' : Hp} {p : Addr} {rows : List (List Int)} (e : Same H H') (h : TsAt H p rows) : TsAt H' p rows := let ⟨as, a, b⟩ := h; ⟨as, e _ _ a, b.same e⟩
theorem LsAt.gd {H H' : Hp} {p : Addr} {rows : List (List Int)} (e : Gd H H') (h : LsAt H p rows) : LsAt H' p rows := let ⟨as, a, b⟩ := h; ⟨as, e.1 _ _ (np_refs _) a, b.gd e⟩
theorem neD_ls {K : PySem.W.Frag} {H : Hp} {a b : Addr} {r1 r2 : List (List Int)} {Q : VK} (h1 : LsAt H a r1) (h2 : LsAt H b r2) (q : Q (.bl (!decide (r1 = r2))) H) : rNeD K (.ref a) (.ref b) H Q := by
  obtain ⟨as, a1, a2⟩ := h1
  obtain ⟨bs, b1, b2⟩ := h2
  exact ⟨_, _, .lst (lst_of a1) (dpAll_rows a2), .lst (lst_of b1) (dpAll_rows b2), shLs r1, shLs r2, by rw [PyData.eqv, ev_rows]; exact q⟩
theorem neD_ts {K : PySem.W.Frag} {H : Hp} {a b : Addr} {r1 r2 : List (List Int)} {Q : VK} (h1 : TsAt H a r1) (h2 : TsAt H b r2) (q : Q (.bl (!decide (r1 = r2))) H) : rNeD K (.ref a) (.ref b) H Q := by
  obtain ⟨as, a1, a2⟩ := h1
  obtain ⟨bs, b1, b2⟩ := h2
  exact neD_rows a1 b1 a2 b2 q
theorem ne_self {α : Type} [DecidableEq α] {x y : α} (h : x = y) {A B : Prop} (b : B) : if (!decide (x = y)) = true then A else B := by
  rw [decide_eq_true h]
  exact iteF b
/-- another object does not lie among the rows -/
theorem RowsAt.upd_lst {H : Hp} {as : List Addr} {rows : List (List Int)} {p : Addr} {o : HO} {xs : List V} (h : RowsAt H as rows) (hp : H p = some (.lst xs)) : RowsAt (upd H p o) as rows :=
  ⟨h.1, fun i a row e1 e2 => by rw [upd_ne (fun z => by have := h.2 i a row e1 e2; rw [z, hp] at this; cases this)]; exact h.2 i a row e1 e2⟩
theorem RowsAt.drop {H : Hp} {as : List Addr} {rows : List (List Int)} (k : Nat) (h : RowsAt H as rows) : RowsAt H (as.drop k) (rows.drop k) :=
  ⟨by rw [List.length_drop, List.length_drop, h.1], fun i a row e1 e2 => by rw [List.getElem?_drop] at e1 e2; exact h.2 _ a row e1 e2⟩
theorem RowsAt.take {H : Hp} {as : List Addr} {rows : List (List Int)} (k : Nat) (h : RowsAt H as rows) : RowsAt H (as.take k) (rows.take k) :=
  ⟨by rw [List.length_take, List.length_take, h.1], fun i a row e1 e2 => by
    rw [List.getElem?_take] at e1 e2
    split at e1
    · rw [if_pos ‹_›] at e2
      exact h.2 i a row e1 e2
    · cases e1⟩
theorem RowsAt.cons {H : Hp} {as : List Addr} {rows : List (List Int)} {x : Addr} {row : List Int} (h : RowsAt H as rows) (hx : H x = some (.tup (row.map V.int))) : RowsAt H (x :: as) (row :: rows) :=
  ⟨by rw [List.length_cons, List.length_cons, h.1], fun i a r e1 e2 => by
    cases i with
    | zero => cases e1; cases e2; exact hx
    | succ i => exact h.2 i a r e1 e2⟩
theorem RowsAt.nil {H : Hp} : RowsAt H [] [] := ⟨rfl, fun i a r e1 _ => by simp at e1⟩
/-- xs[k:] of a list -/
theorem cut_from {α : Type} (f : α → V) (as : List α) (k : Nat) : cutV (as.map f) (some (k : Int)) none = (as.drop k).map f := by
  unfold cutV
  rw [HT.sIx_nat, HT.sIx_none, List.length_map, List.map_drop]
  have e : List.drop (min k as.length) (as.map f) = List.drop k (as.map f) := by
    rcases Nat.le_total k as.length with h | h
    · rw [Nat.min_eq_left h]
    · rw [Nat.min_eq_right h, List.drop_eq_nil_of_le (by rw [List.length_map]; exact Nat.le_refl _), List.drop_eq_nil_of_le (by rw [List.length_map]; exact h)]
  rw [e]
  refine List.take_of_length_le ?_
  rw [List.length_drop, List.length_map]
  omega
/-! ## more of walks -/
theorem WK_at {rows : List (List Int)} {R : List Int} {e o : Int} (G : GoodW rows e o) : ∀ (k : Nat) (p : Int), -e ≤ p → p < rows.length → ∀ row, (WK rows R p)[k]? = some row → ∃ p' : Int, 0 ≤ p' ∧ p' < rows.length ∧ row = itP rows R p' ∧ WK rows R p' = (WK rows R p).drop k ∧ WN rows R p' = WN rows R p
  | k, p, h1, h2, row, hr => by
    have p0 : 0 ≤ p := by
      refine Int.not_lt.mp fun hn => ?_
      rw [WK_neg hn] at hr
      simp at hr
    obtain ⟨c1, c2⟩ := WK_cons (R := R) G p0 h2
    cases k with
    | zero =>
      rw [c1] at hr
      cases hr
      exact ⟨p, p0, h2, rfl, rfl, rfl⟩
    | succ k =>
      rw [c1] at hr
      obtain ⟨n1, n2, _⟩ := nxP_ok (R := R) G p0 h2
      obtain ⟨p', a1, a2, a3, a4, a5⟩ := WK_at G k _ n1 n2 row hr
      exact ⟨p', a1, a2, a3, by rw [a4, c1]; rfl, a5.trans c2.symm⟩
theorem wl_agree {rows : List (List Int)} {R S : List Int} {e o : Int} (G : GoodW rows e o) {A : Nat → Int → Prop} (hA : ∀ i q r, rows[i]? = some (q :: r) → A i q ∧ ∀ t ∈ r, 0 ≤ t → ¬ A t.toNat q ∧ ∀ z, A t.toNat z → A i z) :
    ∀ (k : Nat) (p : Int), p < rows.length → (∀ z, 0 ≤ p → A p.toNat z → (z ∈ norm R ↔ z ∈ norm S)) → wl rows R k p = wl rows S k p ∧ we rows R k p = we rows S k p
  | 0, p, _, _ => ⟨rfl, rfl⟩
  | k + 1, p, h2, h => by
    unfold wl we
    by_cases hn : p < 0
    · rw [if_pos hn, if_pos hn, if_pos hn, if_pos hn]
      exact ⟨rfl, rfl⟩
    · rw [if_neg hn, if_neg hn, if_neg hn, if_neg hn]
      have p0 : 0 ≤ p := by omega
      obtain ⟨q, t1, t2, r, hr, hrw, _, _, b1, b2⟩ := row3 G p0 h2
      rw [hr] at hrw
      obtain ⟨a1, a2⟩ := hA _ _ _ hrw
      have hq : qP rows p = q := by unfold qP; rw [hr] <;> rfl
      have ha : aP rows R p = aP rows S p := by
        unfold aP
        rw [hq]
        have := h q p0 a1
        by_cases hin : q ∈ norm R
        · rw [if_pos hin, if_pos (this.mp hin)]
        · rw [if_neg hin, if_neg fun z => hin (this.mpr z)]
      have hnx : nxP rows R p = nxP rows S p := by unfold nxP; rw [ha]
      have hmem : nxP rows S p = t1 ∨ nxP rows S p = t2 := by
        unfold nxP tRow
        rw [hr]
        split
        · exact .inl rfl
        · exact .inr rfl
      obtain ⟨n1, n2, n3⟩ := nxP_ok (R := S) G p0 h2
      obtain ⟨i1, i2⟩ := wl_agree G hA k (nxP rows S p) n2 fun z hz hz2 => h z p0 <| by
        refine (a2 (nxP rows S p) ?_ hz).2 z hz2
        rcases hmem with h | h <;> rw [h] <;> simp
      unfold itP
      rw [ha, hnx, i1, i2]
      exact ⟨rfl, rfl⟩
/-- a question that is asked at a node tells nothing behind it -/
theorem WK_agree {rows : List (List Int)} {R S : List Int} {e o p t : Int} (G : GoodW rows e o) (p0 : 0 ≤ p) (p1 : p < rows.length) (ht : t ∈ (rowP rows p).tail) (h : ∀ z, z ≠ qP rows p → (z ∈ norm R ↔ z ∈ norm S)) : WK rows R t = WK rows S t ∧ WN rows R t = WN rows S t := by
  obtain ⟨A, hA⟩ := G.cert
  obtain ⟨q, t1, t2, r, hr, hrw, _, _, b1, b2⟩ := row3 G p0 p1
  rw [hr] at hrw
  have hq : qP rows p = q := by unfold qP; rw [hr] <;> rfl
  rw [hr] at ht
  obtain ⟨a1, a2⟩ := hA _ _ _ hrw
  obtain ⟨_, _, hrow, _, _, _, hb⟩ := G.row _ _ hrw
  cases hrow
  have tl := (hb t ht).2.1
  obtain ⟨i1, i2⟩ := wl_agree (R := R) (S := S) G hA rows.length t tl fun z hz hz2 => h z fun hzq => by
    rw [hzq, hq] at hz2
    exact (a2 t ht hz).1 hz2
  exact ⟨i1, by unfold WN; rw [i2]⟩
theorem end_neg {rows : List (List Int)} {R : List Int} {e o p : Int} (G : GoodW rows e o) (h1 : -e ≤ p) (h2 : p < rows.length) : WK rows R (-1 - WN rows R p) = [] ∧ WN rows R (-1 - WN rows R p) = WN rows R p := by
  obtain ⟨a, b⟩ := WN_ok (R := R) G h1 h2
  refine ⟨WK_neg (by omega), ?_⟩
  rw [WN_neg (by omega)]
  omega
/-! ## the calls -/
theorem walk_k {C CP CN : Addr} {H : Hp} {web pu : Addr} {v : V} {rows : List (List Int)} {R : List Int} {e o z : Int} {Q : List V → Hp → Prop} {E : XK} (hw : WebAt C H web rows e o) (G : GoodW rows e o) (hp : PupAt CP H pu R) (hst : StV v o z) (z0 : -e ≤ z) (z1 : z < rows.length)
    (k : ∀ H' as, Same H H' → RowsAt H' as (WK rows R z) → Q (as.map V.ref) H') : spWalkL C CP CN [.ref web, .ref pu, v] H Q E := by
  have gl := G.len
  have ge := G.e2
  exact ⟨web, pu, v, rows, R, e, o, z, rfl, hw, G, hp, hst, Bd.small (by omega) (by omega), fun _ => k, fun h => absurd ⟨z0, z1⟩ h⟩
theorem ls_new {H H' : Hp} {p : Addr} {as : List Addr} {rows : List (List Int)} (f : Same H H') (hr : RowsAt H' as rows) (np : H' p = none) : Same H (upd H' p (.lst (as.map V.ref))) ∧ LsAt (upd H' p (.lst (as.map V.ref))) p rows :=
  ⟨f.trans (same_upd np), as, upd_same, hr.same (same_upd np)⟩
theorem end_k {C CP CN : Addr} {H : Hp} {web pu : Addr} {v : V} {rows : List (List Int)} {R : List Int} {e o z : Int} {Q : VK} {E : XK} (hw : WebAt C H web rows e o) (G : GoodW rows e o) (hp : PupAt CP H pu R) (hst : StV v o z) (z0 : -e ≤ z) (z1 : z < rows.length)
    (k : ∀ H', Same H H' → Q (.int (WN rows R z)) H') : spEnd C CP CN [.ref web, .ref pu, v] H Q E := by
  have gl := G.len
  have ge := G.e2
  exact ⟨web, pu, v, rows, R, e, o, z, rfl, hw, G, hp, hst, Bd.small (by omega) (by omega), fun _ H' f => k H' f, fun h => absurd ⟨z0, z1⟩ h⟩
theorem run_k {C CP : Addr} {H : Hp} {web pu : Addr} {rows : List (List Int)} {R : List Int} {e o : Int} {Q : VK} {E : XK} (hw : WebAt C H web rows e o) (G : GoodW rows e o) (hp : PupAt CP H pu R)
    (k : ∀ H' p, Same H H' → TsAt H' p ((WK rows R o).map List.tail) → Q (.ref p) H') : spRun C CP [.ref web, .ref pu] H Q E :=
  ⟨web, pu, rows, R, e, o, rfl, hw, G, hp, fun H' t as f ht hr => k H' t f ⟨as, ht, hr⟩⟩
theorem WN_bd {rows : List (List Int)} {R : List Int} {e o p : Int} (G : GoodW rows e o) (h1 : -e ≤ p) (h2 : p < rows.length) : -e ≤ -1 - WN rows R p ∧ -1 - WN rows R p < 0 := by
  obtain ⟨a, b⟩ := WN_ok (R := R) G h1 h2
  omega
/-- one node of a web and a pupil who answers its question with x -/
def spNF (C CP : Addr) : Sp := fun vs H Q _ => ∃ (web pu : Addr) (k : Nat) (rows : List (List Int)) (R : List Int) (e o : Int), vs = [.ref web, .ref pu, .int (k : Int)] ∧ WebAt C H web rows e o ∧ GoodW rows e o ∧ PupAt CP H pu R ∧ k < rows.length ∧ ∀ H', Same H H' → Q (.bl true) H'
theorem sub_norm {R : List Int} {q z : Int} : z ∈ norm (fSub R [q]) ↔ z ∈ norm R ∧ z ≠ q := by
  simp only [fSub, mem_norm, List.mem_filter, List.mem_singleton, Bool.not_eq_true', decide_eq_false_iff_not]
  exact ⟨fun ⟨a, b, c⟩ => ⟨⟨a, b⟩, c⟩, fun ⟨⟨a, b⟩, c⟩ => ⟨a, b, c⟩⟩
theorem add_norm {R : List Int} {q z : Int} (h : 0 ≤ q ∧ q < 48) : z ∈ norm (R ++ [q]) ↔ z ∈ norm R ∨ z = q := by
  simp only [mem_norm, List.mem_append, List.mem_singleton]
  constructor
  · rintro ⟨a, b | b⟩
    · exact .inl ⟨a, b⟩
    · exact .inr b
  · rintro (⟨a, b⟩ | rfl)
    · exact ⟨a, .inl b⟩
    · exact ⟨h, .inr rfl⟩
end L2

namespace L2
open PySem PySem.Spec PyProof.Rows Gg
/-! ## walks of two pupils -/
/-- xs[:k] of a list -/
theorem cut_to {α : Type} (f : α → V) (as : List α) (k : Nat) : cutV (as.map f) none (some (k : Int)) = (as.take k).map f := by
  unfold cutV
  rw [HT.sIx_nat, HT.sIx_none, List.length_map, List.drop_zero, Nat.sub_zero, ← List.map_take]
  rcases Nat.le_total k as.length with h | h
  · rw [Nat.min_eq_left h]
  · rw [Nat.min_eq_right h, List.take_of_length_le (Nat.le_refl _), List.take_of_length_le h]
theorem aP_cong {rows : List (List Int)} {R S : List Int} {p : Int} (h : qP rows p ∈ norm R ↔ qP rows p ∈ norm S) : aP rows R p = aP rows S p := by
  unfold aP
  by_cases hin : qP rows p ∈ norm R
  · rw [if_pos hin, if_pos (h.mp hin)]
  · rw [if_neg hin, if_neg fun z => hin (h.mpr z)]
/-- the same answers on the walk: the same walk -/
theorem wl_cong {rows : List (List Int)} {R S : List Int} : ∀ (k : Nat) (p : Int), (∀ z, itP rows R z ∈ wl rows R k p → (qP rows z ∈ norm R ↔ qP rows z ∈ norm S)) → wl rows R k p = wl rows S k p ∧ we rows R k p = we rows S k p
  | 0, p, _ => ⟨rfl, rfl⟩
  | k + 1, p, h => by
    unfold wl we
    unfold wl at h
    by_cases hn : p < 0
    · rw [if_pos hn, if_pos hn, if_pos hn, if_pos hn]
      exact ⟨rfl, rfl⟩
    · rw [if_neg hn] at h
      rw [if_neg hn, if_neg hn, if_neg hn, if_neg hn]
      have ha : aP rows R p = aP rows S p := aP_cong (h p List.mem_cons_self)
      have hx : nxP rows R p = nxP rows S p := by unfold nxP; rw [ha]
      obtain ⟨i1, i2⟩ := wl_cong k (nxP rows R p) fun z hz => h z (List.mem_cons_of_mem _ hz)
      rw [← hx, i1, i2]
      unfold itP
      rw [ha]
      exact ⟨rfl, rfl⟩
theorem WK_cong {rows : List (List Int)} {R S : List Int} {p : Int} (h : ∀ z, itP rows R z ∈ WK rows R p → (qP rows z ∈ norm R ↔ qP rows z ∈ norm S)) : WK rows R p = WK rows S p ∧ WN rows R p = WN rows S p := by
  obtain ⟨a, b⟩ := wl_cong _ _ h
  exact ⟨a, by unfold WN; rw [b]⟩
/-- one answer turned: the same walk up to it -/
theorem WK_turn0 {rows : List (List Int)} {R S : List Int} {e o : Int} (G : GoodW rows e o) {A : Nat → Int → Prop} (hA : ∀ i q r, rows[i]? = some (q :: r) → A i q ∧ ∀ t ∈ r, 0 ≤ t → ¬ A t.toNat q ∧ ∀ z, A t.toNat z → A i z) :
    ∀ (k : Nat) (p : Int), -e ≤ p → p < rows.length → ∀ row, (WK rows R p)[k]? = some row → ∃ p' : Int, 0 ≤ p' ∧ p' < rows.length ∧ row = itP rows R p' ∧ 0 ≤ p ∧ A p.toNat (qP rows p') ∧
      ((∀ z, z ≠ qP rows p' → (z ∈ norm R ↔ z ∈ norm S)) → (WK rows S p).take k = (WK rows R p).take k ∧ (WK rows S p).drop k = WK rows S p' ∧ WN rows S p = WN rows S p')
  | k, p, h1, h2, row, hr => by
    have p0 : 0 ≤ p := by
      refine Int.not_lt.mp fun hn => ?_
      rw [WK_neg hn] at hr
      simp at hr
    obtain ⟨c1, c2⟩ := WK_cons (R := R) G p0 h2
    obtain ⟨d1, d2⟩ := WK_cons (R := S) G p0 h2
    obtain ⟨q, t1, t2, r, hrow, hrw, _, _, b1, b2⟩ := row3 G p0 h2
    have hq : qP rows p = q := by unfold qP; rw [hrow] <;> rfl
    rw [hrow] at hrw
    obtain ⟨a1, a2⟩ := hA _ _ _ hrw
    cases k with
    | zero =>
      rw [c1] at hr
      cases hr
      exact ⟨p, p0, h2, rfl, p0, by rw [hq]; exact a1, fun _ => ⟨rfl, rfl, rfl⟩⟩
    | succ k =>
      rw [c1] at hr
      obtain ⟨n1, n2, _⟩ := nxP_ok (R := R) G p0 h2
      obtain ⟨p', e1, e2, e3, e4, e5, e6⟩ := WK_turn0 (S := S) G hA k _ n1 n2 row hr
      have hm : nxP rows R p = t1 ∨ nxP rows R p = t2 := by
        unfold nxP tRow
        rw [hrow]
        split
        · exact .inl rfl
        · exact .inr rfl
      obtain ⟨a3, a4⟩ := a2 (nxP rows R p) (by rcases hm with h | h <;> rw [h] <;> simp) e4
      refine ⟨p', e1, e2, e3, p0, a4 _ e5, fun h => ?_⟩
      have hne : qP rows p ≠ qP rows p' := fun z => by rw [← z, hq] at e5; exact a3 e5
      have ha : aP rows R p = aP rows S p := aP_cong (h _ hne)
      have hx : nxP rows S p = nxP rows R p := by unfold nxP; rw [ha]
      have hi : itP rows S p = itP rows R p := by unfold itP; rw [ha]
      obtain ⟨f1, f2, f3⟩ := e6 h
      rw [c1, d1, d2, hx, hi, List.take_succ_cons, List.take_succ_cons, f1, List.drop_succ_cons]
      exact ⟨rfl, f2, f3⟩
theorem WK_turn {rows : List (List Int)} {R S : List Int} {e o p : Int} {k : Nat} {row : List Int} (G : GoodW rows e o) (h1 : -e ≤ p) (h2 : p < rows.length) (hr : (WK rows R p)[k]? = some row) : ∃ p' : Int, 0 ≤ p' ∧ p' < rows.length ∧ row = itP rows R p' ∧
      ((∀ z, z ≠ qP rows p' → (z ∈ norm R ↔ z ∈ norm S)) → (WK rows S p).take k = (WK rows R p).take k ∧ (WK rows S p).drop k = WK rows S p' ∧ WN rows S p = WN rows S p') := by
  obtain ⟨A, hA⟩ := G.cert
  obtain ⟨p', a, b, c, _, _, d⟩ := WK_turn0 (S := S) G hA k p h1 h2 row hr
  exact ⟨p', a, b, c, d⟩
theorem wl_row {rows : List (List Int)} {R : List Int} : ∀ (k : Nat) (p : Int) (row : List Int), row ∈ wl rows R k p → ∃ z, row = itP rows R z
  | 0, p, row, h => by cases h
  | k + 1, p, row, h => by
    unfold wl at h
    split at h
    · cases h
    · rcases List.mem_cons.mp h with h | h
      · exact ⟨p, h⟩
      · exact wl_row k _ row h
theorem WK_row {rows : List (List Int)} {R : List Int} {p : Int} {row : List Int} (h : row ∈ WK rows R p) : ∃ z, row = itP rows R z := wl_row _ _ _ h
theorem WK_q {rows : List (List Int)} {R : List Int} {e o p : Int} (G : GoodW rows e o) (h1 : -e ≤ p) (h2 : p < rows.length) {row : List Int} (h : row ∈ WK rows R p) : ∃ z, row = itP rows R z ∧ 0 ≤ qP rows z ∧ qP rows z < 48 := by
  obtain ⟨k, hk⟩ := List.getElem?_of_mem h
  obtain ⟨z, z0, z1, hz, _⟩ := WK_at G k p h1 h2 row hk
  obtain ⟨q, t1, t2, r, hrow, hrw, q0, q1, _⟩ := row3 G z0 z1
  have hq : qP rows z = q := by unfold qP; rw [hrow] <;> rfl
  exact ⟨z, hz, by rw [hq]; exact q0, by rw [hq]; exact q1⟩
/-- the questions of a walk -/
def qsW (l : List (List Int)) : List Int := l.map fun row => (row[1]?).getD 0
/-- those that are answered right -/
def rtW (l : List (List Int)) : List Int := (l.filter fun row => decide ((row[2]?).getD 0 = 1)).map fun row => (row[1]?).getD 0
theorem mem_rtW {rows : List (List Int)} {R : List Int} {p q : Int} : q ∈ rtW (WK rows R p) ↔ ∃ z, itP rows R z ∈ WK rows R p ∧ qP rows z = q ∧ q ∈ norm R := by
  unfold rtW
  rw [List.mem_map]
  constructor
  · rintro ⟨row, h, rfl⟩
    obtain ⟨h1, h2⟩ := List.mem_filter.mp h
    obtain ⟨z, rfl⟩ := WK_row h1
    refine ⟨z, h1, rfl, ?_⟩
    have h2 : aP rows R z = 1 := of_decide_eq_true h2
    unfold aP at h2
    split at h2
    · assumption
    · cases h2
  · rintro ⟨z, h1, rfl, h2⟩
    refine ⟨_, List.mem_filter.mpr ⟨h1, decide_eq_true ?_⟩, rfl⟩
    show aP rows R z = 1
    unfold aP
    rw [if_pos h2]
theorem mem_qsW {rows : List (List Int)} {R : List Int} {p q : Int} : q ∈ qsW (WK rows R p) ↔ ∃ z, itP rows R z ∈ WK rows R p ∧ qP rows z = q := by
  unfold qsW
  rw [List.mem_map]
  constructor
  · rintro ⟨row, h, rfl⟩
    obtain ⟨z, rfl⟩ := WK_row h
    exact ⟨z, h, rfl⟩
  · rintro ⟨z, h, rfl⟩
    exact ⟨_, h, rfl⟩
theorem rtW_snoc {rows l : List (List Int)} {R : List Int} {z : Int} : rtW (l ++ [itP rows R z]) = rtW l ++ if aP rows R z = 1 then [qP rows z] else [] := by
  unfold rtW
  rw [List.filter_append, List.map_append]
  congr 1
  by_cases h : aP rows R z = 1
  · rw [if_pos h, List.filter_cons, if_pos (show decide (((itP rows R z)[2]?).getD 0 = 1) = true from decide_eq_true h)]
    rfl
  · rw [if_neg h, List.filter_cons, if_neg (show ¬ decide (((itP rows R z)[2]?).getD 0 = 1) = true from fun q => h (of_decide_eq_true q))]
    rfl
/-- one step of a told walk is turned about -/
def spTF (C CP : Addr) : Sp := fun vs H Q _ => ∃ (web pu tp : Addr) (k : Nat) (rows : List (List Int)) (R : List Int) (e o : Int), vs = [.ref web, .ref pu, .ref tp, .int (k : Int)] ∧ WebAt C H web rows e o ∧ GoodW rows e o ∧ PupAt CP H pu R ∧ LsAt H tp (WK rows R o) ∧ k < (WK rows R o).length ∧ ∀ H', Same H H' → Q (.bl true) H'
end L2

namespace L2
open PySem PySem.Spec PyProof.Rows
/-! ## d.get(k) of a dict of the written part -/
def tKGet1 (K : PySem.W.Frag) (d : Addr) (ty : TE) : TE := fun σ H Q => ty σ H fun y H2 => ∃ (z : Str) (r : Option Value) (o : V), y = .str z ∧ PySem.W.nsIn K d z = some r ∧ RelV o (r.getD .none) ∧ Q o H2
section
variable {X : Cx} {d : Addr} {es : Array DictEntry} {n : Nat}
theorem kd_get1 {pins : List (Addr × Obj)} {σ : St} {H : Hp} {s : Shared} {Q : Value → Shared → Prop} {E : Value → Shared → Prop} {z : Str} {t : Tok} {r : Option Value} (D : KDict X.K X.w d es n) (I : Inv X pins σ H s) (e : PySem.W.nsIn X.K d z = some r)
    (h : ∀ s', Inv X pins σ H s' → Q (r.getD .none) s') : wpAny (model X.prog X.w) X.A (call (.builtin "dict.get") [.ref d, .str z t]) Q E s := by
  have dd := PySem.W.mapOf_K (prog := X.prog) (w := X.w) I.kIn D.at_ D.lit
  refine call_meetsIn PySem.F.slot_dict_get dd.typeIs PySem.F.entry_dict_get (PySem.F.args_dict_get_2 _ _) (meets_dict_get (strKind X.prog X.w) d (PySem.strKind_is X.prog X.w z t) D.low) ⟨_, dd, ?_⟩
  show Q ((findBy Value.isStrOf es z).getD .none) _
  rw [PySem.W.find_K D.at_ e]
  exact h _ (I.tok _)
theorem pe_kdget1 {x : Str} {p apos cpos : Pos} {e : Expr} {ty : TE} (D : KDict X.K X.w d es n) (hg : Gl X x) (hm : X.mg x = some (.ref d)) (m : M1 X (.Name x p) "get" apos e cpos) (he : PE X e ty) (hdb : (x == ("__debug__" : Str)) = false := by decide) :
    PE X (.Call (.Attribute (.Name x p) "get" apos) [e] [] cpos) (tKGet1 X.K d ty) := by
  refine ⟨fun pins s σ H Q I h => ?_⟩
  have ho : PE X (.Name x p) (tC (.ref d)) := pe_glob (v := .ref d) hg hm rfl hdb
  refine wpAny_Call_method m.base m.few m.line PySem.F.plainAttrs_dict PySem.F.slot_dict_get PySem.F.type_dict_get (thn (ho.run pins s σ H (fun v H2 => v = .ref d ∧ H2 = H) I ⟨rfl, rfl⟩) fun u s1 ⟨v, H1, I1, rx, ex, eH⟩ => ?_)
  subst ex
  subst eH
  obtain rfl : u = Value.ref d := rx
  refine ⟨kd_type D I1, fun b q => ?_, ?_⟩
  · cases q
    exact ⟨_, I1.kIn _ _ D.at_, rfl⟩
  · rw [m.trees]
    refine Calls.callWith_builtin rfl (Calls.evalArgs_plain (Calls.spliced_cons (thn (he.run pins s1 σ _ _ I1 h) fun iv s2 ⟨y, H2, I2, ry, z, r, o, ey, en, ro, q2⟩ => Calls.spliced_nil ?_)))
    subst ey
    obtain ⟨t, rfl⟩ := ry
    exact kd_get1 D I2 en fun s3 I3 => ⟨o, H2, I3, ro, q2⟩
end
end L2

namespace L2
open PySem PySem.Spec PyProof.Rows
/-! ## a dict of the written part whose keys are None and ints -/
def NKeys : List DictEntry → Prop
  | [] => True
  | e :: r => ((e.key = .none ∧ e.hash = reduceHash 0xFCA86420) ∨ ∃ i t, e.key = .int i t ∧ e.hash = hashInt i) ∧ NKeys r
theorem NKeys.all : ∀ {l : List DictEntry}, NKeys l → ∀ e ∈ l, (e.key = .none ∧ e.hash = reduceHash 0xFCA86420) ∨ ∃ i t, e.key = .int i t ∧ e.hash = hashInt i
  | _ :: _, ⟨h, _⟩, _, .head _ => h
  | _ :: _, ⟨_, r⟩, _, .tail _ m => r.all _ m
structure NDict (K : PySem.W.Frag) (d : Addr) (es : Array DictEntry) (n : Nat) : Prop where
  at_ : K.lookup d = some ⟨.type "dict", none, .dict es n, #[]⟩
  keys : NKeys es.toList
/-- the keys of a written dict, all of them -/
def KeysAre : List DictEntry → List Str → Prop
  | [], [] => True
  | e :: r, k :: ks => (∃ t, e.key = .str k t) ∧ KeysAre r ks
  | _, _ => False
theorem KeysAre.all : ∀ {l : List DictEntry} {ks : List Str}, KeysAre l ks → ∀ e ∈ l, ∃ k t, k ∈ ks ∧ e.key = .str k t
  | _ :: _, k :: _, ⟨⟨t, h⟩, _⟩, _, .head _ => ⟨k, t, List.mem_cons_self, h⟩
  | _ :: _, _ :: _, ⟨_, r⟩, _, .tail _ m => let ⟨k, t, h1, h2⟩ := r.all _ m; ⟨k, t, List.mem_cons_of_mem _ h1, h2⟩
theorem ns_miss {K : PySem.W.Frag} {d : Addr} {es : Array DictEntry} {n : Nat} {ks : List Str} {z : Str} (h : K.lookup d = some ⟨.type "dict", none, .dict es n, #[]⟩) (hk : KeysAre es.toList ks) (hz : z ∉ ks) : PySem.W.nsIn K d z = some none := by
  unfold PySem.W.nsIn
  rw [h]
  dsimp only
  have f : es.toList.find? (·.key.isStr z) = none := List.find?_eq_none.mpr fun e he => by
    obtain ⟨k, t, h1, h2⟩ := hk.all e he
    rw [h2]
    intro q
    have : z = k := by
      rw [PySem.W.isStr_of] at q
      simp [Value.isStrOf] at q
      first | exact q | exact q.symm
    exact hz (this ▸ h1)
  rw [f]
  dsimp only
  have g : es.toList.any (·.refKey) = false := List.any_eq_false.mpr fun e he => by
    obtain ⟨k, t, h1, h2⟩ := hk.all e he
    simp [DictEntry.refKey, h2]
  rw [g]
  rfl
def nkV : V → Option Key → Prop
  | .non, k => k = none
  | .int i, k => k = some (.inl i)
  | _, _ => False
section
variable {X : Cx} {d : Addr} {es : Array DictEntry} {n : Nat}
theorem nd_map {P : Program} {w : World} {K : PySem.W.Frag} {h : Heap} (kin : K.In h) (D : NDict K d es n) : h.MapOf (noneKind P w) d (fun k => findBy nkIs es k) :=
  ⟨_, es, n, kin _ _ D.at_, ⟨rfl, rfl, rfl⟩, rfl, fun e he => by
    rcases D.keys.all e (Array.mem_toList_iff.mpr he) with ⟨h1, h2⟩ | ⟨i, t, h1, h2⟩
    · exact ⟨none, by rw [h1]; rfl, h2⟩
    · exact ⟨some (.inl i), by rw [h1]; exact (by simp [noneKind, nkIs, keyIs, Value.isInt]), h2⟩, fun _ => rfl⟩
theorem nk_is {y : V} {v : Value} {k : Option Key} (r : RelV y v) (h : nkV y k) : nkIs k v = true := by
  cases y with
  | non =>
    obtain rfl : k = none := h
    cases r
    rfl
  | int i =>
    obtain rfl : k = some (.inl i) := h
    obtain ⟨t, rfl⟩ := r
    simp [nkIs, keyIs, Value.isInt]
  | _ => exact absurd h id
/-- d[key] -/
def rItemN (d : Addr) (es : Array DictEntry) : R2 := fun x y H Q => ∃ (k : Option Key) (u0 : Value) (v0 : V), x = .ref d ∧ nkV y k ∧ findBy nkIs es k = some u0 ∧ RelV v0 u0 ∧ Q v0 H
theorem ix_nd (D : NDict X.K d es n) : IxR X (rItemN d es) := by
  intro value slice pins s σ H x y v u Q I rx ry h hs
  obtain ⟨k, u0, v0, rfl, hk, e, r, q⟩ := h
  cases rx
  have hm := nd_map (P := X.prog) (w := X.w) I.kIn D
  exact tail_any hm.typeIs slot_dict_getitem.lookup (wpAny_getItem_of (knd := noneKind X.prog X.w) (nk_is ry hk) hm e ⟨v0, H, I.tok _, r, q⟩) hs
/-- what stands under a key -/
def nnIn (K : PySem.W.Frag) (d : Addr) (k : Option Key) : Option Value := match K.lookup d with
  | some o => (match o.data with
    | .dict es _ => findBy nkIs es k
    | _ => none)
  | none => none
theorem nn_at {K : PySem.W.Frag} {k : Option Key} (h : K.lookup d = some ⟨.type "dict", none, .dict es n, #[]⟩) : nnIn K d k = findBy nkIs es k := by
  unfold nnIn
  rw [h]
def rItemM (K : PySem.W.Frag) (d : Addr) : R2 := fun x y H Q => ∃ (k : Option Key) (u0 : Value) (v0 : V), x = .ref d ∧ nkV y k ∧ nnIn K d k = some u0 ∧ RelV v0 u0 ∧ Q v0 H
theorem ix_ndM (D : NDict X.K d es n) : IxR X (rItemM X.K d) := by
  intro value slice pins s σ H x y v u Q I rx ry h hs
  obtain ⟨k, u0, v0, e0, hk, e, r⟩ := h
  rw [nn_at D.at_] at e
  exact ix_nd D value slice pins s σ H x y v u Q I rx ry ⟨k, u0, v0, e0, hk, e, r⟩ hs
/-- d[key], the keys texts -/
def rItemK (K : PySem.W.Frag) (d : Addr) : R2 := fun x y H Q => ∃ (z : Str) (u0 : Value) (v0 : V), x = .ref d ∧ y = .str z ∧ PySem.W.nsIn K d z = some (some u0) ∧ RelV v0 u0 ∧ Q v0 H
theorem ix_kd (D : KDict X.K X.w d es n) : IxR X (rItemK X.K d) := by
  intro value slice pins s σ H x y v u Q I rx ry h hs
  obtain ⟨z, u0, v0, rfl, rfl, e, r, q⟩ := h
  cases rx
  obtain ⟨t, rfl⟩ := ry
  have hm := PySem.W.mapOf_K (prog := X.prog) (w := X.w) I.kIn D.at_ D.lit
  exact tail_any hm.typeIs slot_dict_getitem.lookup (wpAny_getItem_of (PySem.strKind_is X.prog X.w z t) hm (PySem.W.find_K D.at_ e) ⟨v0, H, I.tok _, r, q⟩) hs
end
end L2

namespace L2
open PySem PySem.Spec PyProof.Rows TL
/-! ## words that write numbers -/
theorem tx_ascii (z : Str) : Txt.isascii z = (tl z).all (· < 128) := by
  show z.cps.all (· < 128) = z.cps.toList.all (· < 128)
  rw [Array.all_toList]
theorem uni_digit {c : Nat} (h : c < 128) : Unicode.isDigit c = (decide (48 ≤ c) && decide (c ≤ 57)) := by
  have k : ∀ n : _root_.Fin 128, Unicode.isDigit n.val = (decide (48 ≤ n.val) && decide (n.val ≤ 57)) := by decide +kernel
  exact k ⟨c, h⟩
theorem tx_digit {z : Str} (h : Txt.isascii z = true) : Txt.isdigit z = true ↔ tl z ≠ [] ∧ NumText.AllDigits (tl z) := by
  rw [tx_ascii, List.all_eq_true] at h
  show (decide (z.length > 0) && z.cps.all Unicode.isDigit) = true ↔ _
  rw [Bool.and_eq_true, decide_eq_true_iff, len_tl, ← Array.all_toList, List.all_eq_true]
  refine ⟨fun ⟨h1, h2⟩ => ⟨fun e => by rw [e] at h1; simp at h1, fun c hc => ?_⟩, fun ⟨h1, h2⟩ => ⟨List.length_pos_iff.mpr h1, fun c hc => ?_⟩⟩
  · have h3 := h2 c hc
    have h4 := h c hc
    rw [decide_eq_true_iff] at h4
    rw [uni_digit h4, Bool.and_eq_true, decide_eq_true_iff, decide_eq_true_iff] at h3
    exact h3
  · have h4 := h c hc
    rw [decide_eq_true_iff] at h4
    rw [uni_digit h4, Bool.and_eq_true, decide_eq_true_iff, decide_eq_true_iff]
    exact h2 c hc
theorem num_of_digits {l : List Nat} (h : NumText.AllDigits l) (h1 : l ≠ []) (h0 : l = [48] ∨ l.head? ≠ some 48) : l = numL (NumText.digitsVal l) := by
  cases l with
  | nil => exact absurd rfl h1
  | cons c r =>
    have hc := h c List.mem_cons_self
    have e := NumText.toDigits_digitsVal r.length (c :: r) (by rw [List.length_cons]) h (by
      rcases h0 with h0 | h0
      · left
        rw [(List.cons.inj h0).2]
        rfl
      · right
        refine ⟨c, r, rfl, ?_⟩
        have : c ≠ 48 := fun z => h0 (by rw [z]; rfl)
        omega)
    unfold numL
    rw [e, List.map_map]
    have : ∀ k : List Nat, NumText.AllDigits k → k.map (Char.toNat ∘ Char.ofNat) = k := fun k hk => by
      induction k with
      | nil => rfl
      | cons d s ih =>
        have hd := hk d List.mem_cons_self
        rw [List.map_cons, ih fun x hx => hk x (List.mem_cons_of_mem _ hx)]
        congr 1
        have k2 : ∀ n : _root_.Fin 128, (Char.ofNat n.val).toNat = n.val := by decide +kernel
        exact k2 ⟨d, by omega⟩
    exact (this _ h).symm
theorem numL_all (n : Nat) : NumText.AllDigits (numL n) := numL_digits n
theorem numL_ascii {n : Nat} {z : Str} (h : tl z = numL n) : Txt.isascii z = true := by
  rw [tx_ascii, h, List.all_eq_true]
  intro c hc
  have := numL_digits n c hc
  rw [decide_eq_true_iff]
  omega
/-- the first sign of a number's word is 0 just for 0 -/
theorem numL_head {n : Nat} (h : (numL n).head? = some 48) : numL n = [48] := by
  rcases Nat.lt_or_ge n 10 with h10 | h10
  · rw [numL_lt h10] at h ⊢
    simp at h
    rw [h]
  · exfalso
    have key : ∀ k : Nat, 1 ≤ k → (numL k).head? ≠ some 48 := fun k => by
      induction k using Nat.strongRecOn with
      | _ k ih =>
        intro hk
        rcases Nat.lt_or_ge k 10 with h1 | h1
        · rw [numL_lt h1]
          simp
          omega
        · rw [numL_step h1]
          have := ih (k / 10) (by omega) (by omega)
          cases hq : numL (k / 10) with
          | nil => exact absurd hq (numL_ne _)
          | cons a b =>
            rw [hq] at this
            exact this
    exact key n (by omega) h
theorem tx_zero (z : Str) : Txt.startswith z "0" = true ↔ (tl z).head? = some 48 := by
  obtain ⟨⟨l⟩⟩ := z
  show (decide (0 + 1 ≤ l.length) && ((⟨l⟩ : Array Nat).extract 0 (0 + 1) == (#[48] : Array Nat))) = true ↔ l.head? = some 48
  rw [Bool.and_eq_true, decide_eq_true_iff, beq_iff_eq]
  cases l with
  | nil => simp
  | cons c r => simp
theorem numL_pow (n : Nat) : n < 10 ^ (numL n).length := by
  induction n using Nat.strongRecOn with
  | _ n ih =>
    rcases Nat.lt_or_ge n 10 with h | h
    · rw [numL_lt h]
      exact h
    · rw [numL_step h, List.length_append]
      have := ih (n / 10) (by omega)
      show n < 10 ^ ((numL (n / 10)).length + 1)
      rw [Nat.pow_succ]
      omega
theorem nt_ne {u v : Str} (h : u ≠ v) : decide (V.str u = V.str v) = false := decide_eq_false fun z => h (V.str.inj z)
theorem nt_self {x y : V} (h : x = y) {A B : Prop} (b : B) : if (!decide (x = y)) = true then A else B := by
  rw [decide_eq_true h]
  exact iteF b
def spNum : Sp := fun vs H Q _ => ∃ (z : Str), vs = [.str z] ∧ z.length ≤ sizeLine ∧ (∀ n : Nat, n < 10000 → tl z = numL n → Q (.int (n : Int)) H) ∧ ((∀ n : Nat, n < 10000 → tl z ≠ numL n) → Q .non H)
theorem tl_init (z : Str) : tl (cutS z none (some (-1))) = (tl z).dropLast := by
  unfold cutS
  have hl : (tl z).length = z.length := (len_tl z).symm
  have e : HT.sIx z.length z.length (some (-1)) = z.length - 1 := by
    unfold HT.sIx
    dsimp only
    rw [if_pos (by decide)]
    omega
  rw [e, HT.sIx_none, List.drop_zero, Nat.sub_zero]
  show (tl z).take (z.length - 1) = _
  rw [← hl, List.dropLast_eq_take]
theorem tl_last (z : Str) : tl (cutS z (some (-1)) none) = (tl z).drop ((tl z).length - 1) := by
  unfold cutS
  have hl : (tl z).length = z.length := (len_tl z).symm
  have e : HT.sIx z.length 0 (some (-1)) = z.length - 1 := by
    unfold HT.sIx
    dsimp only
    rw [if_pos (by decide)]
    omega
  rw [e, HT.sIx_none]
  show ((tl z).drop (z.length - 1)).take (z.length - (z.length - 1)) = _
  rw [← hl, List.take_of_length_le (by rw [List.length_drop]; omega)]
theorem noP {σ : L2.St} {H : Hp} {Q : Option Int → Hp → Prop} (h : Q none H) : tNoPart σ H Q := h
theorem cut_whole (l : List Nat) : l.dropLast ++ l.drop (l.length - 1) = l := by
  rw [List.dropLast_eq_take, List.take_append_drop]
/-- the sign of an answer -/
def sgn (b : Bool) : Nat := if b then 43 else 45
def IsStep (l : List Nat) (n : Nat) (b : Bool) : Prop := n < 48 ∧ l = numL n ++ [sgn b]
def spStep (CB : Addr) : Sp := fun vs H Q E => ∃ (z : Str), vs = [.str z] ∧ z.length ≤ sizeLine ∧
  (∀ n b, IsStep (tl z) n b → ∀ (H' : Hp) (t : Addr), Same H H' → H t = none → H' t = some (.tup [.int (n : Nat), .int (if b then 1 else 0)]) → Q (.ref t) H') ∧
  ((∀ n b, ¬ IsStep (tl z) n b) → ∀ (H' : Hp) (d : Addr), Same H H' → H' d = some (.xd [("line", .int 1)]) → E (.ref CB) (some d) H')
def spChg (K : PySem.W.Frag) : Sp := fun vs H Q _ => ∃ (p : Addr) (c : Nat) (z : Str), vs = [.ref p, .str z] ∧ PoolOk K p c H ∧ c + 10 < LIM ∧ z.length ≤ 1000 ∧
  ∀ (H' : Hp) (y : Str), Gd H H' → PoolOk K p (c + 3) H' → y.length ≤ z.length + 1 → Q (.str y) H'
theorem len_cutTo (z : Str) {k : Nat} (h : k ≤ z.length) : (cutS z none (some (k : Int))).length = k := by
  rw [len_tl]
  unfold cutS
  rw [HT.sIx_none, HT.sIx_nat]
  show ((((tl z).drop 0).take (min k z.length - 0))).length = k
  rw [List.drop_zero, List.length_take, ← len_tl]
  omega
theorem len_cutFrom (z : Str) (k : Nat) : (cutS z (some (k : Int)) none).length = z.length - k := by
  rw [len_tl]
  unfold cutS
  rw [HT.sIx_none, HT.sIx_nat]
  show (((tl z).drop (min k z.length)).take (z.length - min k z.length)).length = _
  rw [List.length_take, List.length_drop, ← len_tl]
  omega
theorem len_cutFrom1 (z : Str) (k : Nat) : (cutS z (some ((k : Int) + 1)) none).length = z.length - (k + 1) := len_cutFrom z (k + 1)
theorem spl_len {S : List Nat} : ∀ (l : List Nat) (k : Nat) (acc p : List Nat), p ∈ spl S k acc l → p.length ≤ acc.length + l.length
  | [], k, acc, p, h => by
    rw [spl_nil] at h
    rw [List.mem_singleton.mp h]
    omega
  | c :: r, 0, acc, p, h => by
    cases e : pre S (c :: r) with
    | true =>
      rw [spl_hit e] at h
      rcases List.mem_cons.mp h with h | h
      · rw [h]
        omega
      · have := spl_len r _ _ _ h
        simp at this ⊢
        omega
    | false =>
      rw [spl_miss e] at h
      have := spl_len r _ _ _ h
      simp at this ⊢
      omega
  | c :: r, k + 1, acc, p, h => by
    have := spl_len r k acc p h
    simp at this ⊢
    omega
theorem split_word {z w : Str} {i : Nat} (h : (Txt.split z " ")[i]? = some w) : w.length ≤ z.length := by
  have e := split_spl z " " (by decide +kernel) (kind_ok (by decide +kernel))
  have hm : tl w ∈ (Txt.split z " ").map tl := List.mem_map.mpr ⟨w, List.mem_of_getElem? h, rfl⟩
  rw [e] at hm
  have := spl_len _ _ _ _ hm
  rw [len_tl, len_tl z]
  simpa using this
/-! going over a list or a tuple, of tuples or lists -/
section
variable {X : Cx} {tg it : Expr}
theorem pi_or {w1 w2 : TI} (h1 : PI X tg it w1) (h2 : PI X tg it w2) : PI X tg it (fun σ H R => w1 σ H R ∨ w2 σ H R) := ⟨fun pins s σ H R I h => h.elim (h1.run pins s σ H R I) (h2.run pins s σ H R I)⟩
theorem pg_or {g1 g2 : TG} (h1 : PG X tg g1) (h2 : PG X tg g2) : PG X tg (fun v σ H Q => g1 v σ H Q ∨ g2 v σ H Q) := ⟨fun pins s σ H v u Q I r h => h.elim (h1.run pins s σ H v u Q I r) (h2.run pins s σ H v u Q I r)⟩
end
end L2

namespace L2
open PySem PySem.Spec PyProof.Rows
/-! ## ladders -/
structure Lad where
  h : Int
  f : Int
  up : Int
  dn : Int
  sz : Int
  mo : Int
def Lad.Ok (t : Lad) : Prop := (1 ≤ t.h ∧ t.h ≤ 6) ∧ (1 ≤ t.f ∧ t.f ≤ t.h) ∧ (1 ≤ t.up ∧ t.up ≤ 3) ∧ (1 ≤ t.dn ∧ t.dn ≤ 3) ∧ (1 ≤ t.sz ∧ t.sz ≤ 6) ∧ 0 ≤ t.mo ∧ t.mo ≤ t.sz
def ladV (t : Lad) : List V := [.int t.h, .int t.f, .int t.up, .int t.dn, .int t.sz, .int t.mo]
def LadAt (C : Addr) (H : Hp) (x : Addr) (t : Lad) : Prop := ∃ dx, H x = some (.ins C dx [("levels", .int t.h), ("begin", .int t.f), ("up", .int t.up), ("down", .int t.dn), ("count", .int t.sz), ("most_wrongs", .int t.mo)])
theorem LadAt.same {C x : Addr} {H H' : Hp} {t : Lad} (f : Same H H') (h : LadAt C H x t) : LadAt C H' x t := let ⟨dx, h1⟩ := h; ⟨dx, f _ _ h1⟩
theorem LadAt.gd {C x : Addr} {H H' : Hp} {t : Lad} (f : Gd H H') (h : LadAt C H x t) : LadAt C H' x t := let ⟨dx, h1⟩ := h; ⟨dx, f.1 _ _ (np_ins _ _ _) h1⟩
structure LSt where
  lv : Int
  ups : Int
  dns : Int
  as : List Int
  lost : Int
def LSt.at_ (s : LSt) : Int := s.as.getD (s.lv - 1).toNat 0
def ladQ (s : LSt) : Int := (s.lv - 1) * 8 + s.at_
def LSt.asked (s : LSt) : List Int := s.as.set (s.lv - 1).toNat (s.at_ + 1)
def ladStep (t : Lad) (s : LSt) (a : Int) : LSt :=
  if a = 1 then
    if s.ups + 1 = t.up then ⟨if s.lv < t.h then s.lv + 1 else s.lv, 0, 0, s.asked, s.lost⟩ else ⟨s.lv, s.ups + 1, 0, s.asked, s.lost⟩
  else if s.dns + 1 = t.dn then ⟨if 1 < s.lv then s.lv - 1 else s.lv, 0, 0, s.asked, s.lost + 1⟩ else ⟨s.lv, 0, s.dns + 1, s.asked, s.lost + 1⟩
def lad0 (t : Lad) : LSt := ⟨t.f, 0, 0, [0, 0, 0, 0, 0, 0], 0⟩
def ladS (t : Lad) (ans : Int → Nat → Int) : Nat → LSt
  | 0 => lad0 t
  | i + 1 => ladStep t (ladS t ans i) (ans (ladQ (ladS t ans i)) i)
def ladA (t : Lad) (ans : Int → Nat → Int) (i : Nat) : Int := ans (ladQ (ladS t ans i)) i
def ladL (t : Lad) (ans : Int → Nat → Int) (j : Nat) : List (List Int) := (List.range j).map fun i => [ladQ (ladS t ans i), ladA t ans i]
def ladStop (t : Lad) (ans : Int → Nat → Int) (i : Nat) : Prop := (i : Int) = t.sz ∨ (0 < t.mo ∧ (ladS t ans i).lost = t.mo)
def LadRun (t : Lad) (ans : Int → Nat → Int) (rows : List (List Int)) : Prop := ∃ j : Nat, (j : Int) ≤ t.sz ∧ (∀ i, i < j → ¬ ladStop t ans i) ∧ ladStop t ans j ∧ rows = ladL t ans j
theorem LadRun.uniq {t : Lad} {ans : Int → Nat → Int} {r1 r2 : List (List Int)} (h1 : LadRun t ans r1) (h2 : LadRun t ans r2) : r1 = r2 := by
  obtain ⟨i, _, a1, b1, rfl⟩ := h1
  obtain ⟨j, _, a2, b2, rfl⟩ := h2
  rcases Nat.lt_trichotomy i j with h | h | h
  · exact absurd b1 (a2 i h)
  · rw [h]
  · exact absurd b2 (a1 j h)
theorem ladL_succ (t : Lad) (ans : Int → Nat → Int) (i : Nat) : ladL t ans (i + 1) = ladL t ans i ++ [[ladQ (ladS t ans i), ladA t ans i]] := by
  unfold ladL
  rw [List.range_succ, List.map_append]
  rfl
theorem ladL_len (t : Lad) (ans : Int → Nat → Int) (i : Nat) : (ladL t ans i).length = i := by unfold ladL; rw [List.length_map, List.length_range]
structure LInv (t : Lad) (i : Nat) (s : LSt) : Prop where
  lv : 1 ≤ s.lv ∧ s.lv ≤ t.h
  ups : 0 ≤ s.ups ∧ s.ups < t.up
  dns : 0 ≤ s.dns ∧ s.dns < t.dn
  len : s.as.length = 6
  ent : ∀ (k : Nat) (v : Int), s.as[k]? = some v → 0 ≤ v ∧ v ≤ (i : Int)
  sum : (s.as.take t.h.toNat).sum = (i : Int)
  lost : 0 ≤ s.lost ∧ s.lost ≤ (i : Int)
theorem LInv.get {t : Lad} {i : Nat} {s : LSt} (ht : t.Ok) (I : LInv t i s) : s.as[(s.lv - 1).toNat]? = some s.at_ ∧ (s.lv - 1).toNat < t.h.toNat := by
  obtain ⟨⟨h1, h2⟩, _⟩ := ht
  have hl := I.lv
  have hlen := I.len
  have hk : (s.lv - 1).toNat < s.as.length := by omega
  refine ⟨?_, by omega⟩
  unfold LSt.at_
  rw [List.getD_eq_getElem?_getD, List.getElem?_eq_getElem hk]
  rfl
theorem LInv.q {t : Lad} {i : Nat} {s : LSt} (ht : t.Ok) (I : LInv t i s) (hi : (i : Int) < t.sz) : 0 ≤ ladQ s ∧ ladQ s < 48 := by
  have he := I.ent _ _ (I.get ht).1
  have hl := I.lv
  obtain ⟨h1, _, _, _, h5, _⟩ := ht
  unfold ladQ
  omega
theorem LInv.step {t : Lad} {i : Nat} {s : LSt} {a : Int} (ht : t.Ok) (I : LInv t i s) (ha : a = 0 ∨ a = 1) : LInv t (i + 1) (ladStep t s a) := by
  have hg := I.get ht
  have he := I.ent _ _ hg.1
  have hl := I.lv
  have hu := I.ups
  have hd := I.dns
  have ho := I.lost
  have hlen : s.asked.length = 6 := by unfold LSt.asked; rw [List.length_set]; exact I.len
  have hent : ∀ (k : Nat) (v : Int), s.asked[k]? = some v → 0 ≤ v ∧ v ≤ ((i + 1 : Nat) : Int) := fun k v h => by
    unfold LSt.asked at h
    by_cases hk : (s.lv - 1).toNat = k
    · subst hk
      rw [List.getElem?_set_self (by have := (List.getElem?_eq_some_iff.mp hg.1).1; exact this)] at h
      cases h
      omega
    · rw [List.getElem?_set_ne hk] at h
      have := I.ent k v h
      omega
  have hsum : (s.asked.take t.h.toNat).sum = ((i + 1 : Nat) : Int) := by
    unfold LSt.asked
    rw [List.take_set, sum_set (z := s.at_) (by rw [List.getElem?_take, if_pos hg.2]; exact hg.1), I.sum]
    omega
  obtain ⟨h1, h2, h3, h4, _⟩ := ht
  unfold ladStep
  rcases ha with rfl | rfl
  · rw [if_neg (by decide)]
    split
    · refine ⟨?_, ⟨Int.le_refl 0, by show (0 : Int) < t.up; omega⟩, ⟨Int.le_refl 0, by show (0 : Int) < t.dn; omega⟩, hlen, hent, hsum, by show 0 ≤ s.lost + 1; omega, by show s.lost + 1 ≤ _; omega⟩
      show 1 ≤ (if 1 < s.lv then s.lv - 1 else s.lv) ∧ (if 1 < s.lv then s.lv - 1 else s.lv) ≤ t.h
      split <;> omega
    · exact ⟨hl, ⟨Int.le_refl 0, by show (0 : Int) < t.up; omega⟩, ⟨by show 0 ≤ s.dns + 1; omega, by show s.dns + 1 < t.dn; omega⟩, hlen, hent, hsum, by show 0 ≤ s.lost + 1; omega, by show s.lost + 1 ≤ _; omega⟩
  · rw [if_pos rfl]
    split
    · refine ⟨?_, ⟨Int.le_refl 0, by show (0 : Int) < t.up; omega⟩, ⟨Int.le_refl 0, by show (0 : Int) < t.dn; omega⟩, hlen, hent, hsum, ho.1, by show s.lost ≤ _; omega⟩
      show 1 ≤ (if s.lv < t.h then s.lv + 1 else s.lv) ∧ (if s.lv < t.h then s.lv + 1 else s.lv) ≤ t.h
      split <;> omega
    · exact ⟨hl, ⟨by show 0 ≤ s.ups + 1; omega, by show s.ups + 1 < t.up; omega⟩, ⟨Int.le_refl 0, by show (0 : Int) < t.dn; omega⟩, hlen, hent, hsum, ho.1, by show s.lost ≤ _; omega⟩
theorem lad0_inv {t : Lad} (ht : t.Ok) : LInv t 0 (lad0 t) := by
  obtain ⟨h1, h2, h3, h4, _⟩ := ht
  refine ⟨h2, ⟨Int.le_refl 0, by show (0 : Int) < t.up; omega⟩, ⟨Int.le_refl 0, by show (0 : Int) < t.dn; omega⟩, rfl, fun k v h => ?_, ?_, Int.le_refl 0, Int.le_refl 0⟩
  · have hm : v ∈ ([0, 0, 0, 0, 0, 0] : List Int) := List.mem_of_getElem? h
    simp only [List.mem_cons, List.not_mem_nil, or_false, or_self] at hm
    subst hm
    decide
  · have hh : t.h.toNat = 1 ∨ t.h.toNat = 2 ∨ t.h.toNat = 3 ∨ t.h.toNat = 4 ∨ t.h.toNat = 5 ∨ t.h.toNat = 6 := by omega
    rcases hh with h | h | h | h | h | h <;> rw [h] <;> rfl
theorem ladS_inv {t : Lad} {ans : Int → Nat → Int} (ht : t.Ok) (hA : ∀ q i, ans q i = 0 ∨ ans q i = 1) : ∀ i, LInv t i (ladS t ans i)
  | 0 => lad0_inv ht
  | i + 1 => (ladS_inv ht hA i).step ht (hA _ _)
/-! ## the promises -/
def spLad (C : Addr) : Sp := fun vs H Q _ => ∃ (x dx : Addr) (t : Lad), vs = .ref x :: ladV t ∧ H x = some (.ins C dx []) ∧ t.Ok ∧ ∀ H', LadAt C H' x t → (∀ b o, b ≠ x → H b = some o → H' b = some o) → Q .non H'
def spLadEq (C : Addr) : Sp := fun vs H Q _ => ∃ (x y : Addr) (t u : Lad), vs = [.ref x, .ref y] ∧ LadAt C H x t ∧ LadAt C H y u ∧ Q (.bl (decide (t.h = u.h ∧ t.f = u.f ∧ t.up = u.up ∧ t.dn = u.dn ∧ t.sz = u.sz ∧ t.mo = u.mo))) H
/-- a ladder's state, i questions asked -/
def LStAt (H : Hp) (p : Addr) (t : Lad) (i : Nat) (s : LSt) : Prop := ∃ ak, H p = some (.tup [.int s.lv, .int s.ups, .int s.dns, .ref ak, .int ((i : Int) - s.lost)]) ∧ H ak = some (.tup ((s.as.take t.h.toNat).map V.int))
theorem LStAt.same {H H' : Hp} {p : Addr} {t : Lad} {i : Nat} {s : LSt} (f : Same H H') (h : LStAt H p t i s) : LStAt H' p t i s := let ⟨ak, h1, h2⟩ := h; ⟨ak, f _ _ h1, f _ _ h2⟩
def spLad0 (C : Addr) : Sp := fun vs H Q _ => ∃ (x : Addr) (t : Lad), vs = [.ref x] ∧ LadAt C H x t ∧ t.Ok ∧ ∀ H' p, Same H H' → LStAt H' p t 0 (lad0 t) → Q (.ref p) H'
def spEnded (C : Addr) : Sp := fun vs H Q _ => ∃ (x p : Addr) (t : Lad) (i : Nat) (s : LSt), vs = [.ref x, .ref p] ∧ LadAt C H x t ∧ LStAt H p t i s ∧ LInv t i s ∧ Q (.bl (decide ((i : Int) = t.sz ∨ (0 < t.mo ∧ s.lost = t.mo)))) H
def spQuest : Sp := fun vs H Q _ => ∃ (p : Addr) (t : Lad) (i : Nat) (s : LSt), vs = [.ref p] ∧ t.Ok ∧ LStAt H p t i s ∧ LInv t i s ∧ Q (.int (ladQ s)) H
def spBehind (C : Addr) : Sp := fun vs H Q _ => ∃ (x p : Addr) (t : Lad) (i : Nat) (s : LSt) (a : Int), vs = [.ref x, .ref p, .int a] ∧ t.Ok ∧ LadAt C H x t ∧ LStAt H p t i s ∧ LInv t i s ∧ (a = 0 ∨ a = 1) ∧ ∀ H' p', Same H H' → LStAt H' p' t (i + 1) (ladStep t s a) → Q (.ref p') H'
def spLadRun (C CP : Addr) : Sp := fun vs H Q _ => ∃ (x y : Addr) (t : Lad) (l : List Int), vs = [.ref x, .ref y] ∧ t.Ok ∧ LadAt C H x t ∧ PupAt CP H y l ∧
  ∀ H' r as rows, Same H H' → H' r = some (.tup (as.map V.ref)) → RowsAt H' as rows → LadRun t (fun q _ => if q ∈ norm l then 1 else 0) rows → Q (.ref r) H'
def spLadder (K : PySem.W.Frag) : Sp := fun vs H Q _ => ∃ (p : Addr) (c : Nat), vs = [.ref p] ∧ PoolOk K p c H ∧ c < 100000 ∧ ∀ (H' : Hp) (x : Addr) (t : Lad), Gd H H' → PoolOk K p (c + 6) H' → H' x = some (.tup (ladV t)) → t.Ok → Q (.ref x) H'
def spMade (C : Addr) : Sp := fun vs H Q _ => ∃ (x : Addr) (t : Lad), vs = [.ref x] ∧ H x = some (.tup (ladV t)) ∧ t.Ok ∧ ∀ H' y, H y = none → Same H H' → LadAt C H' y t → Q (.ref y) H'
/-- the law's own run: tl the lambda's reading -/
def TTlad : Addr → V → (List V → Hp → VK → Prop) → Hp → VK → Prop := fun c' v1 tl H Q => ∃ (x : Addr) (t : Lad) (ans : Int → Nat → Int), v1 = .ref x ∧ H x = some (.tup (ladV t)) ∧ t.Ok ∧ (∀ q i, ans q i = 0 ∨ ans q i = 1) ∧
  (∀ (q : Int) (i : Nat) (H' : Hp) (Q' : VK), (i : Int) < t.sz → Same H H' → Q' (.int (ans q i)) H' → tl [.int q, .int (i : Int)] H' Q') ∧
  ∀ H' D as rows, Same H H' → H' D = some (.lst (as.map V.ref)) → RowsAt H' as rows → LadRun t ans rows → Q (.ref D) H'
/-! ## parts of a tuple, and two tuples put together -/
theorem slA_to {K : PySem.W.Frag} {H : Hp} {a : Addr} {xs : List V} {k : Nat} {Q : VK} (ha : H a = some (.tup xs)) (q : ∀ H' r, Same H H' → H' r = some (.tup (xs.take k)) → Q (.ref r) H') : rSlA K (.ref a) none (some (k : Int)) H Q := by
  refine ⟨a, xs, rfl, tup_of ha, fun h => ?_, fun _ p np => ?_⟩
  · refine q H a (Same.refl H) ?_
    rw [HT.sIx_nat] at h
    rw [List.take_of_length_le (by omega)]
    exact ha
  · refine q _ p (same_upd np) ?_
    have e := cut_to id xs k
    rw [List.map_id, List.map_id] at e
    rw [upd_same, e]
theorem slA_from {K : PySem.W.Frag} {H : Hp} {a : Addr} {xs : List V} {k : Nat} {Q : VK} (ha : H a = some (.tup xs)) (q : ∀ H' r, Same H H' → H' r = some (.tup (xs.drop k)) → Q (.ref r) H') : rSlA K (.ref a) (some (k : Int)) none H Q := by
  refine ⟨a, xs, rfl, tup_of ha, fun h => ?_, fun _ p np => ?_⟩
  · refine q H a (Same.refl H) ?_
    rw [HT.sIx_nat] at h
    have h0 : k = 0 ∨ xs = [] := by
      rcases Nat.eq_zero_or_pos k with h0 | h0
      · exact .inl h0
      · exact .inr (List.length_eq_zero_iff.mp (by omega))
    rcases h0 with rfl | rfl
    · exact ha
    · rw [List.drop_nil]
      exact ha
  · refine q _ p (same_upd np) ?_
    have e := cut_from id xs k
    rw [List.map_id, List.map_id] at e
    rw [upd_same, e]
theorem catA_any {K : PySem.W.Frag} {H : Hp} {a b : Addr} {xs ys : List V} {Q : VK} (ha : H a = some (.tup xs)) (hb : H b = some (.tup ys)) (hz : xs.length + ys.length ≤ sizeLine) (q : ∀ H' r, Same H H' → H' r = some (.tup (xs ++ ys)) → Q (.ref r) H') : rCatA K (.ref a) (.ref b) H Q := by
  refine ⟨a, b, xs, ys, rfl, rfl, tup_of ha, tup_of hb, hz, fun e => ?_, fun _ e => ?_, fun _ _ p np => q _ p (same_upd np) upd_same⟩
  · refine q H b (Same.refl H) ?_
    rw [e, List.nil_append]
    exact hb
  · refine q H a (Same.refl H) ?_
    rw [e, List.append_nil]
    exact ha
theorem set_cut {α : Type} {l : List α} {n : Nat} {x : α} (h : n < l.length) : l.take n ++ [x] ++ l.drop (n + 1) = l.set n x := by
  rw [List.set_eq_take_append_cons_drop, if_pos h, List.append_assoc]
  rfl
theorem LadRun.rows {t : Lad} {ans : Int → Nat → Int} {rows : List (List Int)} (ht : t.Ok) (hA : ∀ q i, ans q i = 0 ∨ ans q i = 1) (h : LadRun t ans rows) : rows.length ≤ 6 ∧ ∀ (i : Nat) (row : List Int), rows[i]? = some row → ∃ q a, row = [q, a] ∧ (0 ≤ q ∧ q < 48) ∧ (a = 0 ∨ a = 1) := by
  obtain ⟨j, hj, hno, _, rfl⟩ := h
  have hsz := ht.2.2.2.2.1
  refine ⟨by rw [ladL_len]; omega, fun i row hi => ?_⟩
  unfold ladL at hi
  rw [List.getElem?_map] at hi
  obtain ⟨k, hk, rfl⟩ := Option.map_eq_some_iff.mp hi
  have hkj : k < j := by
    have := List.mem_of_getElem? hk
    exact List.mem_range.mp this
  refine ⟨_, _, rfl, (ladS_inv ht hA k).q ht ?_, hA _ _⟩
  have h1 := hno k hkj
  omega
theorem Tabs.gd {T : List (Addr × Str)} {H H' : Hp} (g : Gd H H') (h : LamX.Tabs T H) : LamX.Tabs T H' := fun p hp => by
  obtain ⟨ps, h1, h2, h3⟩ := h p hp
  refine ⟨ps, g.1 _ _ (fun ⟨_, _, _, _, _, z⟩ => by cases z) h1, h2, fun pos cv hc => ?_⟩
  obtain ⟨c, e1, e2⟩ := h3 pos cv hc
  exact ⟨c, e1, g.1 _ _ (fun ⟨_, _, _, _, _, z⟩ => by unfold LamX.CodeO at z; cases z) e2⟩
theorem extN_gd {H H' : Hp} (e : LamX.ExtN H H') {b : Addr} {o : HO} (h : H b = some o) (n : ∀ ps, o ≠ .tbl ps) : H' b = some o := e b o h n
theorem extN_rows {H H' : Hp} (e : LamX.ExtN H H') {as : List Addr} {rows : List (List Int)} (h : RowsAt H as rows) : RowsAt H' as rows := ⟨h.1, fun i a row h1 h2 => e _ _ (h.2 i a row h1 h2) (fun _ z => nomatch z)⟩
theorem extN_pool {K : PySem.W.Frag} {p : Addr} {c : Nat} {H H' : Hp} (e : LamX.ExtN H H') (h : PoolOk K p c H) : PoolOk K p c H' := by
  obtain ⟨sa, ns, c', i, b, s, h1, h2, h3⟩ := h
  refine ⟨sa, ns, c', i, b, s, ?_, e _ _ h2 (fun _ z => nomatch z), h3⟩
  rcases h1 with ⟨o, h1⟩ | h1
  · exact .inl ⟨o, e _ _ h1 (fun _ z => nomatch z)⟩
  · exact .inr h1
theorem extN_none {H H' : Hp} (e : LamX.ExtN H H') {b : Addr} {o : HO} (h : H b = some o) (n : ∀ ps, o ≠ .tbl ps) : H' b ≠ none := fun z => by rw [e b o h n] at z; cases z
theorem ans_norm {l : List Int} (hq : Qn l) : (fun (q : Int) (_ : Nat) => if q ∈ norm l then (1 : Int) else 0) = fun q _ => if q ∈ l then 1 else 0 := by
  funext q i
  by_cases h : q ∈ l
  · rw [if_pos h, if_pos (mem_norm.mpr ⟨hq q h, h⟩)]
  · rw [if_neg h, if_neg (fun z => h (mem_norm.mp z).2)]
theorem rg_filterL {n : Nat} {p : Int → Bool} {l : List Int} (hn : n ≤ 48) (hm : ∀ k, k ∈ l ↔ (0 ≤ k ∧ k < n ∧ p k = true)) : (rgI n).filter p = norm l := by
  refine norm_of_sorted ?_ (fun x => ?_) fun x hx => ?_
  · have : (rgI n).Pairwise (· < ·) := by
      unfold rgI
      rw [List.pairwise_map]
      exact (List.pairwise_lt_range).imp fun h => by omega
    exact this.sublist List.filter_sublist
  · rw [List.mem_filter, mem_rgI, hm]
    constructor
    · rintro ⟨⟨h1, h2⟩, h3⟩
      exact ⟨h1, h2, h3⟩
    · rintro ⟨h1, h2, h3⟩
      exact ⟨⟨h1, h2⟩, h3⟩
  · have := (hm x).mp hx
    omega
end L2

namespace L2
open PySem PySem.Spec PyProof.Rows
section
variable {X : Cx}
/-- range(n) as a value -/
theorem cr_range1 : CallR X (.type "range") (fun vs H Q => ∃ j, vs = [V.int j] ∧ ∀ p, H p = none → Q (.ref p) (upd H p (.rng 0 j))) := by
  intro pins s σ H xs us Q I r h
  obtain ⟨j, rfl, q⟩ := h
  cases r with
  | cons ra rr =>
    cases rr
    obtain ⟨t, rfl⟩ := ra
    refine call_range_1 ?_
    have hn : H s.heap.objs.size = none := I.hok.fresh (Nat.le_refl _)
    exact ⟨.ref s.heap.objs.size, upd H s.heap.objs.size (.rng 0 j), I.laid (fun b u e => Heap.get?_push_of_some _ e) (Nat.le_refl _) ⟨_, _, _, Heap.get?_push_size _ rfl⟩, rfl, q _ hn⟩
/-- going over a range that stands in H -/
def iRngO (tl : TE) : TI := fun σ H R => tl σ H fun x H1 => ∃ a lo hi, x = V.ref a ∧ H1 a = some (.rng lo hi) ∧ -(2 ^ 62) ≤ lo ∧ lo < 2 ^ 62 ∧ -(2 ^ 62) ≤ hi ∧ hi < 2 ^ 62 ∧ R (Itr lo (hi - lo).toNat) H1
theorem pi_rngO {tg l : Expr} {tl : TE} (hl : PE X l tl) : PI X tg l (iRngO tl) := by
  refine ⟨fun pins s σ H R I h => ?_⟩
  refine thn (hl.run pins s σ H _ I h) fun v s1 hh => ?_
  obtain ⟨x, H1, I1, r, a, lo, hi, rfl, ha, h1, h2, h3, h4, hR⟩ := hh
  cases r
  obtain ⟨t, u, v, ho⟩ := I1.hok _ _ ha
  have g0 : IsRange s1.heap a lo hi 1 t u v := ho
  refine wpAny_pyIter_range g0 (small_one h1 h2 h3 h4) ?_
  have n0 := rangeSize_one lo hi
  refine ⟨s1.heap.objs.size, [s1.heap.objs.size], _, Itr lo (hi - lo).toNat, H1, rfl, I1.kept (fun b o e => Heap.get?_push_of_some _ e), turn_range s1.heap.objs.size lo (hi - lo).toNat, ?_, fun b hb => ?_, hR⟩
  · have e : ((Builtin.Range.rangeSize lo hi 1 : Int)) = (((hi - lo).toNat : Nat) : Int) := by
      rw [rangeSize_one]
      split <;> omega
    show (s1.heap.push _).get? _ = _
    rw [Heap.get?_push_size _ rfl, e]
    simp
  · rw [List.mem_singleton.mp hb]
    exact I1.fpOk (Nat.le_refl _) (I1.hok.fresh (Nat.le_refl _))
end
end L2

namespace K11
open PySem PySem.Spec PyProof.Rows L2 Gg TL
def topS (i : Nat) : Stmt := PySem.Challenge.pw_steppedtests_k11_ladder_runs.main.body.getD i (.Pass ⟨0, 0, 0, 0⟩)
abbrev s_is_question : Stmt := topS 7
abbrev N_is_question : List Str := ["number"]
abbrev P_is_question : List Str := ["number"]
theorem sc_is_question : FnScope N_is_question P_is_question (defScope s_is_question) := ⟨rfl, rfl, rfl, by decide +kernel, rfl, by decide +kernel, by decide +kernel⟩
abbrev s_Pupil_init : Stmt := inClass (topS 8) 0
abbrev N_Pupil_init : List Str := ["self", "questions", "taken", "question"]
abbrev P_Pupil_init : List Str := ["self", "questions"]
theorem sc_Pupil_init : FnScope N_Pupil_init P_Pupil_init (defScope s_Pupil_init) := ⟨rfl, rfl, rfl, by decide +kernel, rfl, by decide +kernel, by decide +kernel⟩
abbrev s_Pupil_contains : Stmt := inClass (topS 8) 5
abbrev N_Pupil_contains : List Str := ["self", "x"]
abbrev P_Pupil_contains : List Str := ["self", "x"]
theorem sc_Pupil_contains : FnScope N_Pupil_contains P_Pupil_contains (defScope s_Pupil_contains) := ⟨rfl, rfl, rfl, by decide +kernel, rfl, by decide +kernel, by decide +kernel⟩
abbrev s_Ladder_init : Stmt := inClass (topS 11) 0
abbrev N_Ladder_init : List Str := ["self", "levels", "begin", "up", "down", "count", "most_wrongs", "ranges", "word", "number", "low", "high"]
abbrev P_Ladder_init : List Str := ["self", "levels", "begin", "up", "down", "count", "most_wrongs"]
theorem sc_Ladder_init : FnScope N_Ladder_init P_Ladder_init (defScope s_Ladder_init) := ⟨rfl, rfl, rfl, by decide +kernel, rfl, by decide +kernel, by decide +kernel⟩
abbrev s_Ladder_eq : Stmt := inClass (topS 11) 1
abbrev N_Ladder_eq : List Str := ["self", "other"]
abbrev P_Ladder_eq : List Str := ["self", "other"]
theorem sc_Ladder_eq : FnScope N_Ladder_eq P_Ladder_eq (defScope s_Ladder_eq) := ⟨rfl, rfl, rfl, by decide +kernel, rfl, by decide +kernel, by decide +kernel⟩
abbrev s_first_state : Stmt := topS 12
abbrev N_first_state : List Str := ["ladder"]
abbrev P_first_state : List Str := ["ladder"]
theorem sc_first_state : FnScope N_first_state P_first_state (defScope s_first_state) := ⟨rfl, rfl, rfl, by decide +kernel, rfl, by decide +kernel, by decide +kernel⟩
abbrev s_has_ended : Stmt := topS 13
abbrev N_has_ended : List Str := ["ladder", "state", "count", "wrongs"]
abbrev P_has_ended : List Str := ["ladder", "state"]
theorem sc_has_ended : FnScope N_has_ended P_has_ended (defScope s_has_ended) := ⟨rfl, rfl, rfl, by decide +kernel, rfl, by decide +kernel, by decide +kernel⟩
abbrev s_question_of : Stmt := topS 14
abbrev N_question_of : List Str := ["state", "level", "asked"]
abbrev P_question_of : List Str := ["state"]
theorem sc_question_of : FnScope N_question_of P_question_of (defScope s_question_of) := ⟨rfl, rfl, rfl, by decide +kernel, rfl, by decide +kernel, by decide +kernel⟩
abbrev s_state_behind : Stmt := topS 15
abbrev N_state_behind : List Str := ["ladder", "state", "answer", "level", "ups", "downs", "asked", "rights"]
abbrev P_state_behind : List Str := ["ladder", "state", "answer"]
theorem sc_state_behind : FnScope N_state_behind P_state_behind (defScope s_state_behind) := ⟨rfl, rfl, rfl, by decide +kernel, rfl, by decide +kernel, by decide +kernel⟩
abbrev s_ladder_run : Stmt := topS 16
abbrev N_ladder_run : List Str := ["ladder", "pupil", "run", "state", "question", "answer"]
abbrev P_ladder_run : List Str := ["ladder", "pupil"]
theorem sc_ladder_run : FnScope N_ladder_run P_ladder_run (defScope s_ladder_run) := ⟨rfl, rfl, rfl, by decide +kernel, rfl, by decide +kernel, by decide +kernel⟩
abbrev s_l_pool : Stmt := topS 18
abbrev N_l_pool : List Str := ["_law_script"]
abbrev P_l_pool : List Str := ["_law_script"]
theorem sc_l_pool : FnScope N_l_pool P_l_pool (defScope s_l_pool) := ⟨rfl, rfl, rfl, by decide +kernel, rfl, by decide +kernel, by decide +kernel⟩
abbrev s_l_draw : Stmt := topS 19
abbrev N_l_draw : List Str := ["_law_pool_here", "_law_limit", "_law_cell", "_law_digit", "_law_mixed"]
abbrev P_l_draw : List Str := ["_law_pool_here", "_law_limit"]
theorem sc_l_draw : FnScope N_l_draw P_l_draw (defScope s_l_draw) := ⟨rfl, rfl, rfl, by decide +kernel, rfl, by decide +kernel, by decide +kernel⟩
abbrev s_l_is_integer : Stmt := topS 20
abbrev N_l_is_integer : List Str := ["_law_actual"]
abbrev P_l_is_integer : List Str := ["_law_actual"]
theorem sc_l_is_integer : FnScope N_l_is_integer P_l_is_integer (defScope s_l_is_integer) := ⟨rfl, rfl, rfl, by decide +kernel, rfl, by decide +kernel, by decide +kernel⟩
abbrev s_l_ladder : Stmt := topS 21
abbrev N_l_ladder : List Str := ["_law_pool_here", "_law_height", "_law_size", "_law_first", "_law_rises", "_law_falls"]
abbrev P_l_ladder : List Str := ["_law_pool_here"]
theorem sc_l_ladder : FnScope N_l_ladder P_l_ladder (defScope s_l_ladder) := ⟨rfl, rfl, rfl, by decide +kernel, rfl, by decide +kernel, by decide +kernel⟩
abbrev s_l_made : Stmt := topS 22
abbrev N_l_made : List Str := ["_law_told", "_law_height", "_law_first", "_law_rises", "_law_falls", "_law_size", "_law_wrongs"]
abbrev P_l_made : List Str := ["_law_told"]
theorem sc_l_made : FnScope N_l_made P_l_made (defScope s_l_made) := ⟨rfl, rfl, rfl, by decide +kernel, rfl, by decide +kernel, by decide +kernel⟩
abbrev s_l_ladder_run : Stmt := topS 23
abbrev N_l_ladder_run : List Str := ["_law_told", "_law_answers", "_law_height", "_law_level", "_law_rises", "_law_falls", "_law_size", "_law_most", "_law_asked", "_law_run", "_law_rights", "_law_wrongs", "_law_lost", "_law_k", "_law_question", "_law_answer"]
abbrev P_l_ladder_run : List Str := ["_law_told", "_law_answers"]
theorem sc_l_ladder_run : FnScope N_l_ladder_run P_l_ladder_run (defScope s_l_ladder_run) := ⟨rfl, rfl, rfl, by decide +kernel, rfl, by decide +kernel, by decide +kernel⟩
abbrev s_law : Stmt := topS 24
abbrev N_law : List Str := ["_law_script", "_law_pool_here", "_law_told", "_law_wish", "_law_rights", "_law_more", "_law_ladder_here", "_law_some", "_law_pupil", "_law_due", "_law_run", "_law_question", "_law_answer", "_law_k", "_law_name"]
abbrev P_law : List Str := ["_law_script"]
theorem sc_law : FnScope N_law P_law (defScope s_law) := ⟨rfl, rfl, rfl, by decide +kernel, rfl, by decide +kernel, by decide +kernel⟩
structure Ad where
  c_Pupil : Addr
  c_Ladder : Addr
  f_is_question : Addr
  d_is_question : FuncData
  f_Pupil_init : Addr
  d_Pupil_init : FuncData
  f_Pupil_contains : Addr
  d_Pupil_contains : FuncData
  f_Ladder_init : Addr
  d_Ladder_init : FuncData
  f_Ladder_eq : Addr
  d_Ladder_eq : FuncData
  f_first_state : Addr
  d_first_state : FuncData
  f_has_ended : Addr
  d_has_ended : FuncData
  f_question_of : Addr
  d_question_of : FuncData
  f_state_behind : Addr
  d_state_behind : FuncData
  f_ladder_run : Addr
  d_ladder_run : FuncData
  f_l_pool : Addr
  d_l_pool : FuncData
  f_l_draw : Addr
  d_l_draw : FuncData
  f_l_is_integer : Addr
  d_l_is_integer : FuncData
  f_l_ladder : Addr
  d_l_ladder : FuncData
  f_l_made : Addr
  d_l_made : FuncData
  f_l_ladder_run : Addr
  d_l_ladder_run : FuncData
  f_law : Addr
  d_law : FuncData
  Ct : Addr
  Pt : Addr
  t_QUESTIONS : Tok
  t_QUESTIONS_OF_A_LEVEL : Tok
structure Txt (K : PySem.W.Frag) (mg : Str → Option Value) (a : Ad) : Prop where
  g_Pupil : mg "Pupil" = some (.ref a.c_Pupil)
  cl_Pupil : Cls K a.c_Pupil
  mk_Pupil : Mk K a.c_Pupil a.f_Pupil_init
  nA_Pupil_rights : NoAttr K a.c_Pupil "rights"
  g_Ladder : mg "Ladder" = some (.ref a.c_Ladder)
  cl_Ladder : Cls K a.c_Ladder
  mk_Ladder : Mk K a.c_Ladder a.f_Ladder_init
  nA_Ladder_levels : NoAttr K a.c_Ladder "levels"
  nA_Ladder_begin : NoAttr K a.c_Ladder "begin"
  nA_Ladder_up : NoAttr K a.c_Ladder "up"
  nA_Ladder_down : NoAttr K a.c_Ladder "down"
  nA_Ladder_count : NoAttr K a.c_Ladder "count"
  nA_Ladder_most_wrongs : NoAttr K a.c_Ladder "most_wrongs"
  ic_Ladder : PySem.W.findIn K (.ref a.c_Ladder) "__class__" = some (some (.builtin "object.__class__")) ∧ PySem.W.specialIn K (.builtin "object.__class__") "__get__" = some (some (.builtin "getset_descriptor.__get__")) ∧ PySem.W.takesIn K (.builtin "object.__class__") = some true ∧ PySem.W.mroIn K a.c_Ladder (.type "object") = some true
  is_Ladder : PySem.W.kitOne K (.ref a.c_Ladder) (.ref a.c_Ladder) = some true
  F_is_question : Fun K "is_question" "is_question" s_is_question a.f_is_question a.d_is_question
  b_is_question : Binds K a.d_is_question P_is_question []
  k_is_question : PySem.W.keepIn K (.ref a.f_is_question) = true
  g_is_question : mg "is_question" = some (.ref a.f_is_question)
  F_Pupil_init : Fun K "__init__" "Pupil.__init__" s_Pupil_init a.f_Pupil_init a.d_Pupil_init
  b_Pupil_init : Binds K a.d_Pupil_init P_Pupil_init []
  k_Pupil_init : PySem.W.keepIn K (.ref a.f_Pupil_init) = true
  i_Pupil_init : PySem.W.isFn K (.ref a.f_Pupil_init) = true
  F_Pupil_contains : Fun K "__contains__" "Pupil.__contains__" s_Pupil_contains a.f_Pupil_contains a.d_Pupil_contains
  b_Pupil_contains : Binds K a.d_Pupil_contains P_Pupil_contains []
  k_Pupil_contains : PySem.W.keepIn K (.ref a.f_Pupil_contains) = true
  i_Pupil_contains : PySem.W.isFn K (.ref a.f_Pupil_contains) = true
  s_Pupil_contains : PySem.W.findIn K (.ref a.c_Pupil) "__contains__" = some (some (.ref a.f_Pupil_contains))
  F_Ladder_init : Fun K "__init__" "Ladder.__init__" s_Ladder_init a.f_Ladder_init a.d_Ladder_init
  k_Ladder_init : PySem.W.keepIn K (.ref a.f_Ladder_init) = true
  i_Ladder_init : PySem.W.isFn K (.ref a.f_Ladder_init) = true
  kb_Ladder_init_levels_begin_up_down_count_most_wrongs : KBn K a.d_Ladder_init P_Ladder_init 1 ["levels", "begin", "up", "down", "count", "most_wrongs"] (fun us ws => us ++ ws) (fun us ws => us ++ ws)
  F_Ladder_eq : Fun K "__eq__" "Ladder.__eq__" s_Ladder_eq a.f_Ladder_eq a.d_Ladder_eq
  b_Ladder_eq : Binds K a.d_Ladder_eq P_Ladder_eq []
  k_Ladder_eq : PySem.W.keepIn K (.ref a.f_Ladder_eq) = true
  i_Ladder_eq : PySem.W.isFn K (.ref a.f_Ladder_eq) = true
  s_Ladder_eq : PySem.W.findIn K (.ref a.c_Ladder) "__eq__" = some (some (.ref a.f_Ladder_eq))
  F_first_state : Fun K "_first_state" "_first_state" s_first_state a.f_first_state a.d_first_state
  b_first_state : Binds K a.d_first_state P_first_state []
  k_first_state : PySem.W.keepIn K (.ref a.f_first_state) = true
  g_first_state : mg "_first_state" = some (.ref a.f_first_state)
  F_has_ended : Fun K "_has_ended" "_has_ended" s_has_ended a.f_has_ended a.d_has_ended
  b_has_ended : Binds K a.d_has_ended P_has_ended []
  k_has_ended : PySem.W.keepIn K (.ref a.f_has_ended) = true
  g_has_ended : mg "_has_ended" = some (.ref a.f_has_ended)
  F_question_of : Fun K "_question_of" "_question_of" s_question_of a.f_question_of a.d_question_of
  b_question_of : Binds K a.d_question_of P_question_of []
  k_question_of : PySem.W.keepIn K (.ref a.f_question_of) = true
  g_question_of : mg "_question_of" = some (.ref a.f_question_of)
  F_state_behind : Fun K "_state_behind" "_state_behind" s_state_behind a.f_state_behind a.d_state_behind
  b_state_behind : Binds K a.d_state_behind P_state_behind []
  k_state_behind : PySem.W.keepIn K (.ref a.f_state_behind) = true
  g_state_behind : mg "_state_behind" = some (.ref a.f_state_behind)
  F_ladder_run : Fun K "ladder_run" "ladder_run" s_ladder_run a.f_ladder_run a.d_ladder_run
  b_ladder_run : Binds K a.d_ladder_run P_ladder_run []
  k_ladder_run : PySem.W.keepIn K (.ref a.f_ladder_run) = true
  g_ladder_run : mg "ladder_run" = some (.ref a.f_ladder_run)
  F_l_pool : Fun K "_law_pool" "_law_pool" s_l_pool a.f_l_pool a.d_l_pool
  b_l_pool : Binds K a.d_l_pool P_l_pool []
  k_l_pool : PySem.W.keepIn K (.ref a.f_l_pool) = true
  g_l_pool : mg "_law_pool" = some (.ref a.f_l_pool)
  F_l_draw : Fun K "_law_draw" "_law_draw" s_l_draw a.f_l_draw a.d_l_draw
  b_l_draw : Binds K a.d_l_draw P_l_draw []
  k_l_draw : PySem.W.keepIn K (.ref a.f_l_draw) = true
  g_l_draw : mg "_law_draw" = some (.ref a.f_l_draw)
  F_l_is_integer : Fun K "_law_is_integer" "_law_is_integer" s_l_is_integer a.f_l_is_integer a.d_l_is_integer
  b_l_is_integer : Binds K a.d_l_is_integer P_l_is_integer []
  k_l_is_integer : PySem.W.keepIn K (.ref a.f_l_is_integer) = true
  g_l_is_integer : mg "_law_is_integer" = some (.ref a.f_l_is_integer)
  F_l_ladder : Fun K "_law_ladder" "_law_ladder" s_l_ladder a.f_l_ladder a.d_l_ladder
  b_l_ladder : Binds K a.d_l_ladder P_l_ladder []
  k_l_ladder : PySem.W.keepIn K (.ref a.f_l_ladder) = true
  g_l_ladder : mg "_law_ladder" = some (.ref a.f_l_ladder)
  F_l_made : Fun K "_law_made" "_law_made" s_l_made a.f_l_made a.d_l_made
  b_l_made : Binds K a.d_l_made P_l_made []
  k_l_made : PySem.W.keepIn K (.ref a.f_l_made) = true
  g_l_made : mg "_law_made" = some (.ref a.f_l_made)
  F_l_ladder_run : Fun K "_law_ladder_run" "_law_ladder_run" s_l_ladder_run a.f_l_ladder_run a.d_l_ladder_run
  b_l_ladder_run : Binds K a.d_l_ladder_run P_l_ladder_run []
  k_l_ladder_run : PySem.W.keepIn K (.ref a.f_l_ladder_run) = true
  g_l_ladder_run : mg "_law_ladder_run" = some (.ref a.f_l_ladder_run)
  F_law : Fun K "law" "law" s_law a.f_law a.d_law
  b_law : Binds K a.d_law P_law []
  k_law : PySem.W.keepIn K (.ref a.f_law) = true
  g_law : mg "law" = some (.ref a.f_law)
  g_QUESTIONS : mg "QUESTIONS" = some (.int 48 a.t_QUESTIONS)
  g_QUESTIONS_OF_A_LEVEL : mg "QUESTIONS_OF_A_LEVEL" = some (.int 8 a.t_QUESTIONS_OF_A_LEVEL)
  z_abs : mg "abs" = none
  z_bool : mg "bool" = none
  z_int : mg "int" = none
  z_isinstance : mg "isinstance" = none
  z_len : mg "len" = none
  z_list : mg "list" = none
  z_range : mg "range" = none
  z_set : mg "set" = none
  z_sorted : mg "sorted" = none
  z_sum : mg "sum" = none
  z_tuple : mg "tuple" = none
section
variable {P : Program} {w : World} {K : PySem.W.Frag} {mg : Str → Option Value} {base : Heap} {a : Ad}
end
end K11

namespace K11
open PySem PySem.Spec PyProof.Rows L2 Gg TL
section
variable {P : Program} {w : World} {K : PySem.W.Frag} {mg : Str → Option Value} {base : Heap} {a : Ad}
def spIsQ : Sp := fun vs H Q _ => ∃ n : Int, vs = [.int n] ∧ Q (.bl (decide (0 ≤ n ∧ n < 48))) H
theorem ok_is_question (T : Txt K mg a) : FnOk P w K mg base CX0 1 a.f_is_question a.d_is_question P_is_question spIsQ := by
  refine T.F_is_question.ok sc_is_question (fun vs H Q E h => ?_) (fun cdv A outer s H vs Q E hr h => ?_)
  · obtain ⟨n, rfl, _⟩ := h
    rfl
  · obtain ⟨n, rfl, q⟩ := h
    refine ⟨_, (pss_one (ps_ret (pe_chain op_le op_lt pe_int (pv 0) (pe_glob (v := .int 48) (by rfl) T.g_QUESTIONS ⟨_, rfl⟩)))), ?_⟩
    refine ⟨_, rfl, _, _, rfl, rfl, _, rfl, ?_⟩
    by_cases h0 : (0 : Int) ≤ n
    · rw [decide_eq_true h0]
      refine iteT ⟨_, _, rfl, rfl, ?_⟩
      show Q (.bl (decide (n < 48))) H
      rw [show decide (n < 48) = decide (0 ≤ n ∧ n < 48) by rw [Bool.eq_iff_iff]; simp [h0]]
      exact q
    · rw [decide_eq_false h0]
      refine iteF ?_
      rw [show decide (0 ≤ n ∧ n < 48) = false by simp [h0]] at q
      exact q
theorem ok_Pupil_init (T : Txt K mg a) : FnOk P w K mg base CX0 2 a.f_Pupil_init a.d_Pupil_init P_Pupil_init (spInit K a.c_Pupil) := by
  refine T.F_Pupil_init.ok sc_Pupil_init (fun vs H Q E h => ?_) (fun cdv A outer s H vs Q E hr h => ?_)
  · obtain ⟨x, dx, q, l, rfl, _⟩ := h
    rfl
  · obtain ⟨x, dx, q, l, rfl, hx, hq, hl, hn, k⟩ := h
    refine ⟨_, (Evl.pss_cut (ps_set (i := 2) sc_Pupil_init.nd rfl (Or.inl rfl) (pe_callTy call_tuple_of (by rfl) T.z_tuple (by decide +kernel) (pa_cons (pv 1) pa_nil)))
  (Evl.pss_cut (ps_for PassesOwn.never rfl (pi_tup (pv 2)) (pg_name (i := 3) sc_Pupil_init.nd rfl (Or.inl rfl))
    (pss_one (ps_if (pt_not (pt_val (pe_call (ok_is_question T) (hr.mono (by decide)) (by rfl) T.g_is_question T.k_is_question T.b_is_question .nil pass0 (pa_cons (pv 3) pa_nil))))
    (pss_one ps_never)
    pss_nil)))
  (pss_one (ps_fld (pv 0) (pe_callTy call_tuple_of (by rfl) T.z_tuple (by decide +kernel) (pa_cons (pe_callB (cr_sortedSet rfl) (by rfl) T.z_sorted (by decide +kernel) (pa_cons (pe_callTy (cr_setOf rfl) (by rfl) T.z_set (by decide +kernel) (pa_cons (pv 2) pa_nil)) pa_nil)) pa_nil)) rfl)))), ?_⟩
    refine ⟨fun σ H1 => ∃ t, σ = [some (.ref x), some (.ref q), some (.ref t), none] ∧ Same H H1 ∧ SqT K H1 t (l.map V.int), ?_, ?_⟩
    · refine ⟨_, rfl, q, l.map V.int, rfl, ?_⟩
      rcases hq with hq | hq
      · exact .inl ⟨hq, fun t ht => ⟨t, rfl, same_upd ht, .inl (.inl upd_same)⟩⟩
      · exact .inr ⟨hq, ⟨q, rfl, Same.refl _, hq⟩⟩
    · rintro σ H1 ⟨t, rfl, e1, ht⟩
      refine ⟨fun σ H2 => ∃ v, σ = [some (.ref x), some (.ref q), some (.ref t), v] ∧ Same H H2 ∧ SqT K H2 t (l.map V.int), ?_, ?_⟩
      · refine ⟨_, rfl, t, rfl, ⟨_, ht⟩, for_tup (K := K) (a := t) (xs := l.map V.int) (fun i σ H2 => ∃ v, σ = [some (.ref x), some (.ref q), some (.ref t), v] ∧ Same H H2 ∧ SqT K H2 t (l.map V.int)) ⟨none, rfl, e1, ht⟩ (fun i σ H2 _ ⟨_, _, _, h⟩ => h) ?_ ?_⟩
        · rintro i y σ H2 hi ⟨v, rfl, e2, ht2⟩
          obtain ⟨z, hz, rfl⟩ := get_map_int hi
          have hz2 := hn z (List.mem_of_getElem? hz)
          refine ⟨_, rfl, z, rfl, ?_⟩
          rw [decide_eq_true hz2]
          refine ⟨_, rfl, ?_⟩
          exact iteF ⟨_, rfl, e2, ht2⟩
        · rintro σ H2 ⟨v, rfl, e2, ht2⟩
          exact ⟨v, rfl, e2, ht2⟩
      · rintro σ H2 ⟨v, rfl, e2, ht2⟩
        refine ⟨_, rfl, t, l, rfl, ht2, by omega, fun p c np hc hL => ?_⟩
        have hc48 : c ≤ 48 := by
          have := hL ask48 fun k hk => mem_ask.mpr (hn k hk)
          unfold ask48 at this
          rw [List.length_map, List.length_range] at this
          exact this
        refine ⟨p, _, c, rfl, upd_same, by omega, fun ns r hs hm hlen nr => ?_⟩
        have ens : ns = norm l := norm_of_sorted hs (fun x => by rw [hm, decide_eq_true_eq]) hn
        subst ens
        refine ⟨r, _, rfl, .inl ⟨.inl (.inl upd_same), fun t2 nt2 => ?_⟩⟩
        have s2 : Same H2 (upd (upd (upd H2 p (SetO w p (fun j => decide (j ∈ l)) c)) r (.lst ((norm l).map V.int))) t2 (.tup ((norm l).map V.int))) := ((same_upd np).trans (same_upd nr)).trans (same_upd nt2)
        have hx2 := s2 _ _ (e2 _ _ hx)
        have nx : t2 ≠ x := (ne_of_none ((same_upd nr) _ _ ((same_upd np) _ _ (e2 _ _ hx))) nt2).symm
        refine ⟨_, rfl, x, _, dx, [], rfl, hx2, T.cl_Pupil, T.nA_Pupil_rights, by decide, ?_⟩
        refine k _ t2 upd_same ?_ fun b o hb e => ?_
        · rw [upd_ne nx, upd_same]
        · rw [upd_ne hb]
          exact s2 _ _ (e2 _ _ e)
theorem ok_Pupil_contains (T : Txt K mg a) : FnOk P w K mg base CX0 1 a.f_Pupil_contains a.d_Pupil_contains P_Pupil_contains (spHas a.c_Pupil) := by
  refine T.F_Pupil_contains.ok sc_Pupil_contains (fun vs H Q E h => ?_) (fun cdv A outer s H vs Q E hr h => ?_)
  · obtain ⟨x, p, z, rfl, _⟩ := h
    rfl
  · obtain ⟨x, p, z, rfl, ⟨dx, t, hx, ht⟩, k⟩ := h
    refine ⟨_, (pss_one (ps_ret (pe_cmpR op_in_seq (pv 1) (pe_fld (pv 0) (by rfl)) (by with_unfolding_all rfl)))), ?_⟩
    exact ⟨_, rfl, _, rfl, x, _, dx, _, _, rfl, hx, T.cl_Pupil, T.nA_Pupil_rights, rfl, in_k (.inr (tup_of ht)) k⟩
theorem ok_l_pool (T : Txt K mg a) : FnOk P w K mg base CX0 1 a.f_l_pool a.d_l_pool P_l_pool (spPool K) := by
  refine T.F_l_pool.ok sc_l_pool (fun vs H Q E h => ?_) (fun cdv A outer s H vs Q E hr h => ?_)
  · obtain ⟨x, ns, rfl, _⟩ := h
    rfl
  · obtain ⟨x, ns, rfl, hx, k⟩ := h
    refine ⟨_, (pss_one (ps_ret (pe_lst (pa_cons (pv 0) (pa_cons pe_int (pa_cons pe_int (pa_cons pe_int (pa_cons pe_int pa_nil)))))))), ?_⟩
    refine ⟨_, rfl, by show 5 ≤ sizeLine; decide, fun p hp => ?_⟩
    exact k p _ hp (same_upd hp) ⟨x, ns, 0, 0, 0, 7, hx.gd (same_upd hp).gd, upd_same, by omega, by omega, by omega, by omega, by omega, by omega, by omega⟩
theorem ok_l_draw (T : Txt K mg a) : FnOk P w K mg base CX0 1 a.f_l_draw a.d_l_draw P_l_draw (spDraw K) := by
  refine T.F_l_draw.ok sc_l_draw (fun vs H Q E h => ?_) (fun cdv A outer s H vs Q E hr h => ?_)
  · obtain ⟨p, c, lim, rfl, _⟩ := h
    rfl
  · obtain ⟨p, c, lim, rfl, ⟨sa, ns, c', i, b, st, hsa, hp, c0, c1, i0, i1, b0, s0, s1⟩, hc, l0, l1, k⟩ := h
    refine ⟨_, (Evl.pss_cut (ps_asg (pe_op op_add (pe_ix ix_list (pv 0) pe_int (by intro _ _; rfl)) pe_int) (pg_sub (pv 0) pe_int set_list))
  (Evl.pss_cut (ps_if (PW.pt (pw_and (pt_cmpR op_eq (pe_ix ix_list (pv 0) pe_int (by intro _ _; rfl)) pe_int (nomark _)) (pw_and1 (pt_cmpR op_lt (pe_ix ix_list (pv 0) pe_int (by intro _ _; rfl)) (pe_callB call_len_seq (by rfl) T.z_len (by decide +kernel) (pa_cons (pe_ix ix_list (pv 0) pe_int (by intro _ _; rfl)) pa_nil)) (nomark _)))))
    (pss_cons (ps_set (i := 2) sc_l_draw.nd rfl (Or.inl rfl) (pe_callB call_abs (by rfl) T.z_abs (by decide +kernel) (pa_cons (pe_ix ix_list (pe_ix ix_list (pv 0) pe_int (by intro _ _; rfl)) (pe_ix ix_list (pv 0) pe_int (by intro _ _; rfl)) (by intro _ _; rfl)) pa_nil)))
  (pss_cons (ps_asg (pe_op op_add (pe_ix ix_list (pv 0) pe_int (by intro _ _; rfl)) pe_int) (pg_sub (pv 0) pe_int set_list))
  (pss_one (ps_if (pt_cmpR op_ge (pv 2) (pe_op op_pow pe_int pe_int) (nomark _))
    (pss_one (ps_asg (pv 2) (pg_sub (pv 0) pe_int set_list)))
    (pss_one (ps_asg (pe_op op_mod (pe_callTy call_int1 (by rfl) T.z_int (by decide +kernel) (pa_cons (pe_op op_mul (pe_op op_add (pe_op op_add (pe_ix ix_list (pv 0) pe_int (by intro _ _; rfl)) (pv 2)) pe_int) pe_int) pa_nil)) pe_int) (pg_sub (pv 0) pe_int set_list)))))))
    pss_nil)
  (pss_cons (ps_if (pt_cmpR op_gt (pe_ix ix_list (pv 0) pe_int (by intro _ _; rfl)) pe_int (nomark _))
    (pss_cons (ps_set (i := 3) sc_l_draw.nd rfl (Or.inl rfl) (pe_op op_mod (pe_callTy call_int1 (by rfl) T.z_int (by decide +kernel) (pa_cons (pe_ix ix_list (pv 0) pe_int (by intro _ _; rfl)) pa_nil)) (pv 1)))
  (pss_cons (ps_asg (pe_op op_fdivW (pe_ix ix_list (pv 0) pe_int (by intro _ _; rfl)) (pv 1)) (pg_sub (pv 0) pe_int set_list))
  (pss_one (ps_ret (pv 3)))))
    pss_nil)
  (pss_cons (ps_set (i := 4) sc_l_draw.nd rfl (Or.inl rfl) (pe_op op_mod (pe_callTy call_int1 (by rfl) T.z_int (by decide +kernel) (pa_cons (pe_op op_pow (pe_op op_add (pe_ix ix_list (pv 0) pe_int (by intro _ _; rfl)) (pe_op op_mul (pe_ix ix_list (pv 0) pe_int (by intro _ _; rfl)) pe_int)) pe_int) pa_nil)) pe_int))
  (pss_one (ps_ret (pe_op op_mod (pe_callTy call_int1 (by rfl) T.z_int (by decide +kernel) (pa_cons (pe_op op_fdivW (pv 4) pe_int) pa_nil)) (pv 1)))))))), ?_⟩
    have hp : H p = some (pl sa c' i b st) := hp
    -- pool[1] = pool[1] + 1
    refine ⟨fun σ H1 => σ = [some (.ref p), some (.int lim), none, none, none] ∧ H1 = upd H p (pl sa (c' + 1) i b st), ?_, ?_⟩
    · exact ⟨_, rfl, p, _, 1, _, rfl, rfl, lst_of hp, atI1, c', 1, rfl, rfl, _, rfl, p, _, 1, 1, rfl, rfl, hp, rfl, rfl, rfl⟩
    · rintro σ H1 ⟨rfl, rfl⟩
      -- the cell
      refine ⟨fun σ H2 => ∃ (i' b' st' : Int) (v : Option V), σ = [some (.ref p), some (.int lim), v, none, none] ∧ H2 = upd H p (pl sa (c' + 1) i' b' st') ∧ 0 ≤ i' ∧ i' ≤ (ns.length : Int) ∧ 0 ≤ b' ∧ 0 ≤ st' ∧ st' < 2147483629, ?_, ?_⟩
      · have hP : upd H p (pl sa (c' + 1) i b st) p = some (pl sa (c' + 1) i b st) := upd_same
        have hS : SqL K (upd H p (pl sa (c' + 1) i b st)) sa (ns.map V.int) := (hsa.gd (gd_pool hp)).seq
        refine ⟨_, rfl, p, _, 3, _, rfl, rfl, lst_of hP, atI3, rfl, _, rfl, ?_⟩
        refine ite2 (fun e1 => ?_) (fun e1 => ?_)
        · refine ⟨_, rfl, p, _, 2, _, rfl, rfl, lst_of hP, atI2, _, rfl, p, _, 0, _, rfl, rfl, lst_of hP, atI0, sa, _, rfl, .inl hS, i, _, rfl, rfl, _, rfl, ?_⟩
          refine ite2 (fun e2 => ?_) (fun e2 => ?_)
          · have hi : i < (ns.length : Int) := by
              have := of_decide_eq_true e2
              rw [List.length_map] at this
              exact this
            obtain ⟨j, rfl⟩ : ∃ j : Nat, i = (j : Int) := ⟨i.toNat, by omega⟩
            have hj : j < ns.length := by omega
            have hg : (ns.map V.int)[j]? = some (.int ns[j]) := by
              rw [List.getElem?_map, List.getElem?_eq_getElem hj]
              rfl
            -- cell = abs(pool[0][pool[2]])
            refine ⟨_, rfl, p, _, 0, _, rfl, rfl, lst_of hP, atI0, _, rfl, p, _, 2, _, rfl, rfl, lst_of hP, atI2, sa, _, (j : Int), _, rfl, rfl, hS, atI_nat hg, _, rfl, ?_⟩
            -- pool[2] = pool[2] + 1
            refine ⟨_, rfl, p, _, 2, _, rfl, rfl, lst_of hP, atI2, (j : Int), 1, rfl, rfl, _, rfl, p, _, 2, 2, rfl, rfl, hP, rfl, ?_⟩
            have hP2 : upd (upd H p (pl sa (c' + 1) (j : Int) b st)) p (pl sa (c' + 1) ((j : Int) + 1) b st) p = some (pl sa (c' + 1) ((j : Int) + 1) b st) := upd_same
            have c0' : 0 ≤ (if ns[j] < 0 then -ns[j] else ns[j]) := by split <;> omega
            refine ⟨_, rfl, _, 18, rfl, rfl, ⟨by decide, by decide, by decide⟩, _, _, rfl, rfl, _, rfl, ?_⟩
            refine ite2 (fun e3 => ?_) (fun e3 => ?_)
            · refine ⟨_, rfl, _, rfl, p, _, 3, 3, rfl, rfl, hP2, rfl, ?_⟩
              refine ⟨(j : Int) + 1, _, st, _, rfl, ?_, by omega, by omega, c0', s0, s1⟩
              rw [upd_upd, upd_upd]
              rfl
            · have hlt : (if ns[j] < 0 then -ns[j] else ns[j]) < 10 ^ (18 : Int).toNat := by
                refine Int.not_le.mp fun hh => e3 (decide_eq_true hh)
              refine ⟨_, rfl, p, _, 4, _, rfl, rfl, lst_of hP2, atI4, _, rfl, st, _, rfl, rfl, _, 1, rfl, rfl, _, 48271, rfl, rfl, .inr ⟨by decide, by decide⟩, .inl ⟨_, rfl, _, 2147483629, rfl, rfl, (by show (0 : Int) < 2147483629; decide), _, rfl, p, _, 4, 4, rfl, rfl, hP2, rfl, ?_⟩⟩
              refine ⟨(j : Int) + 1, b, ((st + if ns[j] < 0 then -ns[j] else ns[j]) + 1) * 48271 % 2147483629, _, rfl, ?_, by omega, by omega, b0, Int.emod_nonneg _ (by decide), Int.emod_lt_of_pos _ (by decide)⟩
              rw [upd_upd, upd_upd]
              rfl
          · exact ⟨i, b, st, _, rfl, rfl, i0, i1, b0, s0, s1⟩
        · exact ⟨i, b, st, _, rfl, rfl, i0, i1, b0, s0, s1⟩
      · rintro σ H2 ⟨i', b', st', v, rfl, rfl, i0', i1', b0', s0', s1'⟩
        have hP : upd H p (pl sa (c' + 1) i' b' st') p = some (pl sa (c' + 1) i' b' st') := upd_same
        have fin : ∀ (b'' : Int) (r : Int), 0 ≤ b'' → 0 ≤ r → r < lim → Q (.int r) (upd H p (pl sa (c' + 1) i' b'' st')) := fun b'' r hb hr0 hr1 =>
          k _ r (gd_pool hp) ⟨sa, ns, c' + 1, i', b'', st', hsa.gd (gd_pool hp), upd_same, by omega, by omega, i0', i1', hb, s0', s1'⟩ hr0 hr1
        refine ⟨_, rfl, p, _, 3, _, rfl, rfl, lst_of hP, atI3, b', 0, rfl, rfl, _, rfl, ?_⟩
        refine ite2 (fun e1 => ?_) (fun e1 => ?_)
        · refine ⟨_, rfl, p, _, 3, _, rfl, rfl, lst_of hP, atI3, .inl ⟨_, rfl, _, rfl, b', lim, rfl, rfl, l0, ?_⟩⟩
          refine ⟨_, rfl, p, _, 3, _, rfl, rfl, lst_of hP, atI3, _, rfl, b', lim, rfl, rfl, ⟨l0, ?_⟩, _, rfl, p, _, 3, 3, rfl, rfl, hP, rfl, _, rfl, ?_⟩
          · exact (wide_div (i := 0) (b := 200) l0 (by omega) (by decide) (by decide)).2
          · have := fin (b' / lim) (b' % lim) (Int.ediv_nonneg b0' (by omega)) (Int.emod_nonneg _ (by omega)) (Int.emod_lt_of_pos _ l0)
            rw [upd_upd]
            exact this
        · refine ⟨_, rfl, p, _, 4, _, rfl, rfl, lst_of hP, atI4, _, rfl, p, _, 1, _, rfl, rfl, lst_of hP, atI1, c' + 1, 7919, rfl, rfl, .inr ⟨by decide, by decide⟩, st', _, rfl, rfl, _, 3, rfl, rfl, ⟨by decide, by decide, ?_⟩, .inl ⟨_, rfl, _, 2147483647, rfl, rfl, (by show (0 : Int) < 2147483647; decide), ?_⟩⟩
          · unfold LIM at hc
            omega
          · refine ⟨_, rfl, _, 16, rfl, rfl, ⟨by decide, by decide⟩, .inl ⟨_, rfl, _, rfl, _, lim, rfl, rfl, l0, ?_⟩⟩
            exact fin b' _ b0' (Int.emod_nonneg _ (by omega)) (Int.emod_lt_of_pos _ l0)
end
end K11

namespace K11
open PySem PySem.Spec PyProof.Rows L2 Gg TL
section
variable {P : Program} {w : World} {K : PySem.W.Frag} {mg : Str → Option Value} {base : Heap} {a : Ad}
theorem ok_Ladder_init (T : Txt K mg a) : FnOk P w K mg base CX0 1 a.f_Ladder_init a.d_Ladder_init P_Ladder_init (spLad a.c_Ladder) := by
  refine T.F_Ladder_init.ok sc_Ladder_init (fun vs H Q E h => ?_) (fun cdv A outer s H vs Q E hr h => ?_)
  · obtain ⟨x, dx, t, rfl, _⟩ := h
    rfl
  · obtain ⟨x, dx, t, rfl, hx, ht, k⟩ := h
    obtain ⟨h, f, up, dn, sz, mo⟩ := t
    obtain ⟨o1, o2, o3, o4, o5, o6, o7⟩ := id ht
    dsimp only at o1 o2 o3 o4 o5 o6 o7
    unfold ladV
    refine ⟨_, (Evl.pss_cut (ps_set (i := 7) sc_Ladder_init.nd rfl (Or.inl rfl) (pe_tup (pa_cons (pe_tup (pa_cons pe_str (pa_cons (pv 1) (pa_cons pe_int (pa_cons pe_int pa_nil))))) (pa_cons (pe_tup (pa_cons pe_str (pa_cons (pv 2) (pa_cons pe_int (pa_cons (pv 1) pa_nil))))) (pa_cons (pe_tup (pa_cons pe_str (pa_cons (pv 3) (pa_cons pe_int (pa_cons pe_int pa_nil))))) (pa_cons (pe_tup (pa_cons pe_str (pa_cons (pv 4) (pa_cons pe_int (pa_cons pe_int pa_nil))))) (pa_cons (pe_tup (pa_cons pe_str (pa_cons (pv 5) (pa_cons pe_int (pa_cons pe_int pa_nil))))) (pa_cons (pe_tup (pa_cons pe_str (pa_cons (pv 6) (pa_cons pe_int (pa_cons (pv 5) pa_nil))))) pa_nil))))))))
  (Evl.pss_cut (ps_for PassesOwn.never rfl (pi_tup (pv 7)) (pg_tup rfl (pgs_cons (pg_name (i := 8) sc_Ladder_init.nd rfl (Or.inl rfl)) (pgs_cons (pg_name (i := 9) sc_Ladder_init.nd rfl (Or.inl rfl)) (pgs_cons (pg_name (i := 10) sc_Ladder_init.nd rfl (Or.inl rfl)) (pgs_cons (pg_name (i := 11) sc_Ladder_init.nd rfl (Or.inl rfl)) pgs_nil)))))
    (pss_one (ps_if (pt_not (pt_chain op_le op_le (pv 10) (pv 9) (pv 11)))
    (pss_one ps_never)
    pss_nil)))
  (Evl.pss_cut (ps_fld (pv 0) (pv 1) rfl)
  (Evl.pss_cut (ps_fld (pv 0) (pv 2) rfl)
  (Evl.pss_cut (ps_fld (pv 0) (pv 3) rfl)
  (Evl.pss_cut (ps_fld (pv 0) (pv 4) rfl)
  (Evl.pss_cut (ps_fld (pv 0) (pv 5) rfl)
  (pss_one (ps_fld (pv 0) (pv 6) rfl))))))))), ?_⟩
    refine ⟨fun σ H1 => ∃ (R : Addr) (ts : List Addr), σ = [some (.ref x), some (.int h), some (.int f), some (.int up), some (.int dn), some (.int sz), some (.int mo), some (.ref R), none, none, none, none] ∧ Same H H1 ∧ H1 R = some (.tup (ts.map V.ref)) ∧ ∀ b ∈ ts, ∃ (wd : Str) (n lo hi : Int), H1 b = some (.tup [.str wd, .int n, .int lo, .int hi]) ∧ lo ≤ n ∧ n ≤ hi, ?_, ?_⟩
    · refine ⟨_, rfl, by show 4 ≤ sizeLine; decide, fun t1 n1 => ⟨_, rfl, _, rfl, by show 4 ≤ sizeLine; decide, fun t2 n2 => ⟨_, rfl, by show 4 ≤ sizeLine; decide, fun t3 n3 => ⟨_, rfl, by show 4 ≤ sizeLine; decide, fun t4 n4 => ⟨_, rfl, by show 4 ≤ sizeLine; decide, fun t5 n5 => ⟨_, rfl, _, rfl, by show 4 ≤ sizeLine; decide, fun t6 n6 => ⟨by show 6 ≤ sizeLine; decide, fun R nR => ?_⟩⟩⟩⟩⟩⟩⟩
      have f1 := same_upd n1 (o := .tup [V.str "levels", .int h, .int 1, .int 6])
      have f2 := same_upd n2 (o := .tup [V.str "begin", .int f, .int 1, .int h])
      have f3 := same_upd n3 (o := .tup [V.str "up", .int up, .int 1, .int 3])
      have f4 := same_upd n4 (o := .tup [V.str "down", .int dn, .int 1, .int 3])
      have f5 := same_upd n5 (o := .tup [V.str "count", .int sz, .int 1, .int 6])
      have f6 := same_upd n6 (o := .tup [V.str "most_wrongs", .int mo, .int 0, .int sz])
      have f7 := same_upd nR (o := .tup [V.ref t1, .ref t2, .ref t3, .ref t4, .ref t5, .ref t6])
      refine ⟨R, [t1, t2, t3, t4, t5, t6], rfl, ((((((f1.trans f2).trans f3).trans f4).trans f5).trans f6).trans f7), upd_same, fun b hb => ?_⟩
      simp only [List.mem_cons, List.not_mem_nil, or_false] at hb
      rcases hb with rfl | rfl | rfl | rfl | rfl | rfl
      · exact ⟨_, _, _, _, ((((f2.trans f3).trans f4).trans f5).trans (f6.trans f7)) _ _ upd_same, o1⟩
      · exact ⟨_, _, _, _, (((f3.trans f4).trans f5).trans (f6.trans f7)) _ _ upd_same, o2⟩
      · exact ⟨_, _, _, _, ((f4.trans f5).trans (f6.trans f7)) _ _ upd_same, o3⟩
      · exact ⟨_, _, _, _, (f5.trans (f6.trans f7)) _ _ upd_same, o4⟩
      · exact ⟨_, _, _, _, (f6.trans f7) _ _ upd_same, o5⟩
      · exact ⟨_, _, _, _, f7 _ _ upd_same, o6, o7⟩
    rintro σ H1 ⟨R, ts, rfl, f1, hR, hts⟩
    refine ⟨fun σ H2 => ∃ v8 v9 v10 v11, σ = [some (.ref x), some (.int h), some (.int f), some (.int up), some (.int dn), some (.int sz), some (.int mo), some (.ref R), v8, v9, v10, v11] ∧ Same H H2, ?_, ?_⟩
    · refine ⟨_, rfl, R, rfl, ⟨_, tup_of hR⟩, for_tup (K := K) (a := R) (xs := ts.map V.ref) (fun i σ H2 => ∃ v8 v9 v10 v11, σ = [some (.ref x), some (.int h), some (.int f), some (.int up), some (.int dn), some (.int sz), some (.int mo), some (.ref R), v8, v9, v10, v11] ∧ Same H1 H2) ⟨_, _, _, _, rfl, Same.refl _⟩ (fun i σ H2 _ ⟨_, _, _, _, _, f⟩ => tup_of (f _ _ hR)) ?_ ?_⟩
      · rintro i y σ H2 hi ⟨v8, v9, v10, v11, rfl, f2⟩
        rw [List.getElem?_map] at hi
        obtain ⟨b, hb, rfl⟩ := Option.map_eq_some_iff.mp hi
        obtain ⟨wd, n, lo, hi', hbb, b1, b2⟩ := hts b (List.mem_of_getElem? hb)
        refine ⟨b, _, rfl, tup_of (f2 _ _ hbb), rfl, _, _, rfl, _, _, rfl, _, _, rfl, _, _, rfl, rfl, _, rfl, _, rfl, _, _, rfl, rfl, _, rfl, ?_⟩
        rw [decide_eq_true b1]
        refine iteT ⟨_, rfl, _, _, rfl, rfl, _, rfl, ?_⟩
        rw [decide_eq_true b2]
        exact iteF ⟨_, _, _, _, rfl, f2⟩
      · rintro σ H2 ⟨v8, v9, v10, v11, rfl, f2⟩
        exact ⟨_, _, _, _, rfl, f1.trans f2⟩
    rintro σ H2 ⟨v8, v9, v10, v11, rfl, f2⟩
    have hx2 := f2 _ _ hx
    have kx : ∀ {H' : Hp} {o : HO}, (∀ b u, b ≠ x → H b = some u → H' b = some u) → ∀ b u, b ≠ x → H b = some u → upd H' x o b = some u := fun {H' o} g b u nb eb => by rw [upd_ne nb]; exact g b u nb eb
    refine ⟨fun σ H3 => σ = [some (.ref x), some (.int h), some (.int f), some (.int up), some (.int dn), some (.int sz), some (.int mo), some (.ref R), v8, v9, v10, v11] ∧ H3 x = some (.ins a.c_Ladder dx [("levels", .int h)]) ∧ ∀ b u, b ≠ x → H b = some u → H3 b = some u, ?_, ?_⟩
    · exact ⟨_, rfl, _, rfl, x, _, dx, _, rfl, hx2, T.cl_Ladder, T.nA_Ladder_levels, by show 0 < 1000; decide, rfl, by rw [upd_same]; rfl, kx fun b u _ eb => f2 b u eb⟩
    rintro σ H3 ⟨rfl, hx3, k3⟩
    refine ⟨fun σ H4 => σ = [some (.ref x), some (.int h), some (.int f), some (.int up), some (.int dn), some (.int sz), some (.int mo), some (.ref R), v8, v9, v10, v11] ∧ H4 x = some (.ins a.c_Ladder dx [("levels", .int h), ("begin", .int f)]) ∧ ∀ b u, b ≠ x → H b = some u → H4 b = some u, ?_, ?_⟩
    · exact ⟨_, rfl, _, rfl, x, _, dx, _, rfl, hx3, T.cl_Ladder, T.nA_Ladder_begin, by show 1 < 1000; decide, rfl, by rw [upd_same]; rfl, kx k3⟩
    rintro σ H4 ⟨rfl, hx4, k4⟩
    refine ⟨fun σ H5 => σ = [some (.ref x), some (.int h), some (.int f), some (.int up), some (.int dn), some (.int sz), some (.int mo), some (.ref R), v8, v9, v10, v11] ∧ H5 x = some (.ins a.c_Ladder dx [("levels", .int h), ("begin", .int f), ("up", .int up)]) ∧ ∀ b u, b ≠ x → H b = some u → H5 b = some u, ?_, ?_⟩
    · exact ⟨_, rfl, _, rfl, x, _, dx, _, rfl, hx4, T.cl_Ladder, T.nA_Ladder_up, by show 2 < 1000; decide, rfl, by rw [upd_same]; rfl, kx k4⟩
    rintro σ H5 ⟨rfl, hx5, k5⟩
    refine ⟨fun σ H6 => σ = [some (.ref x), some (.int h), some (.int f), some (.int up), some (.int dn), some (.int sz), some (.int mo), some (.ref R), v8, v9, v10, v11] ∧ H6 x = some (.ins a.c_Ladder dx [("levels", .int h), ("begin", .int f), ("up", .int up), ("down", .int dn)]) ∧ ∀ b u, b ≠ x → H b = some u → H6 b = some u, ?_, ?_⟩
    · exact ⟨_, rfl, _, rfl, x, _, dx, _, rfl, hx5, T.cl_Ladder, T.nA_Ladder_down, by show 3 < 1000; decide, rfl, by rw [upd_same]; rfl, kx k5⟩
    rintro σ H6 ⟨rfl, hx6, k6⟩
    refine ⟨fun σ H7 => σ = [some (.ref x), some (.int h), some (.int f), some (.int up), some (.int dn), some (.int sz), some (.int mo), some (.ref R), v8, v9, v10, v11] ∧ H7 x = some (.ins a.c_Ladder dx [("levels", .int h), ("begin", .int f), ("up", .int up), ("down", .int dn), ("count", .int sz)]) ∧ ∀ b u, b ≠ x → H b = some u → H7 b = some u, ?_, ?_⟩
    · exact ⟨_, rfl, _, rfl, x, _, dx, _, rfl, hx6, T.cl_Ladder, T.nA_Ladder_count, by show 4 < 1000; decide, rfl, by rw [upd_same]; rfl, kx k6⟩
    rintro σ H7 ⟨rfl, hx7, k7⟩
    exact ⟨_, rfl, _, rfl, x, _, dx, _, rfl, hx7, T.cl_Ladder, T.nA_Ladder_most_wrongs, by show 5 < 1000; decide, k _ ⟨dx, by rw [upd_same]; rfl⟩ (kx k7)⟩
theorem ok_Ladder_eq (T : Txt K mg a) : FnOk P w K mg base CX0 1 a.f_Ladder_eq a.d_Ladder_eq P_Ladder_eq (spLadEq a.c_Ladder) := by
  refine T.F_Ladder_eq.ok sc_Ladder_eq (fun vs H Q E h => ?_) (fun cdv A outer s H vs Q E hr h => ?_)
  · obtain ⟨x, y, t, u, rfl, _⟩ := h
    rfl
  · obtain ⟨x, y, t, u, rfl, ⟨dx, hx⟩, ⟨dy, hy⟩, k⟩ := h
    obtain ⟨h1, f1, u1, d1, s1, m1⟩ := t
    obtain ⟨h2, f2, u2, d2, s2, m2⟩ := u
    dsimp only at hx hy k
    refine ⟨_, (pss_one (ps_ret (pe_and (pe_callB call_isi (by rfl) T.z_isinstance (by decide +kernel) (pa_cons (pv 1) (pa_cons (pe_glob (v := .ref a.c_Ladder) (by rfl) T.g_Ladder rfl) pa_nil))) (pe_and (pe_cmpR op_eq (pe_fld (pv 0) (by rfl)) (pe_fld (pv 1) (by rfl)) (nomark _)) (pe_and (pe_cmpR op_eq (pe_fld (pv 0) (by rfl)) (pe_fld (pv 1) (by rfl)) (nomark _)) (pe_and (pe_cmpR op_eq (pe_fld (pv 0) (by rfl)) (pe_fld (pv 1) (by rfl)) (nomark _)) (pe_and (pe_cmpR op_eq (pe_fld (pv 0) (by rfl)) (pe_fld (pv 1) (by rfl)) (nomark _)) (pe_and (pe_cmpR op_eq (pe_fld (pv 0) (by rfl)) (pe_fld (pv 1) (by rfl)) (nomark _)) (pe_one (pe_cmpR op_eq (pe_fld (pv 0) (by rfl)) (pe_fld (pv 1) (by rfl)) (nomark _))))))))))), ?_⟩
    have no : ∀ {p : Prop} [Decidable p], ¬ p → decide p = decide (h1 = h2 ∧ f1 = f2 ∧ u1 = u2 ∧ d1 = d2 ∧ s1 = s2 ∧ m1 = m2) → Q (.bl false) H := fun {p} _ n e => by
      rw [decide_eq_false n] at e
      rw [← e] at k
      exact k
    refine ⟨_, rfl, _, .ref a.c_Ladder, _, _, true, rfl, .own _, .base (.ins hy T.cl_Ladder T.ic_Ladder.1 T.ic_Ladder.2.1 T.ic_Ladder.2.2.1 T.ic_Ladder.2.2.2), T.is_Ladder, _, rfl, iteT ?_⟩
    refine ⟨_, rfl, x, _, dx, _, _, rfl, hx, T.cl_Ladder, T.nA_Ladder_levels, rfl, _, rfl, y, _, dy, _, _, rfl, hy, T.cl_Ladder, T.nA_Ladder_levels, rfl, rfl, _, rfl, ?_⟩
    by_cases e1 : h1 = h2
    rotate_left
    · rw [decide_eq_false (show ¬ V.int h1 = V.int h2 from fun z => e1 (by injection z))]
      exact iteF (no (p := h1 = h2) e1 (by rw [Bool.eq_iff_iff]; simp [e1]))
    subst e1
    rw [decide_eq_true rfl]
    refine iteT ⟨_, rfl, x, _, dx, _, _, rfl, hx, T.cl_Ladder, T.nA_Ladder_begin, rfl, _, rfl, y, _, dy, _, _, rfl, hy, T.cl_Ladder, T.nA_Ladder_begin, rfl, rfl, _, rfl, ?_⟩
    by_cases e2 : f1 = f2
    rotate_left
    · rw [decide_eq_false (show ¬ V.int f1 = V.int f2 from fun z => e2 (by injection z))]
      exact iteF (no (p := f1 = f2) e2 (by rw [Bool.eq_iff_iff]; simp [e2]))
    subst e2
    rw [decide_eq_true rfl]
    refine iteT ⟨_, rfl, x, _, dx, _, _, rfl, hx, T.cl_Ladder, T.nA_Ladder_up, rfl, _, rfl, y, _, dy, _, _, rfl, hy, T.cl_Ladder, T.nA_Ladder_up, rfl, rfl, _, rfl, ?_⟩
    by_cases e3 : u1 = u2
    rotate_left
    · rw [decide_eq_false (show ¬ V.int u1 = V.int u2 from fun z => e3 (by injection z))]
      exact iteF (no (p := u1 = u2) e3 (by rw [Bool.eq_iff_iff]; simp [e3]))
    subst e3
    rw [decide_eq_true rfl]
    refine iteT ⟨_, rfl, x, _, dx, _, _, rfl, hx, T.cl_Ladder, T.nA_Ladder_down, rfl, _, rfl, y, _, dy, _, _, rfl, hy, T.cl_Ladder, T.nA_Ladder_down, rfl, rfl, _, rfl, ?_⟩
    by_cases e4 : d1 = d2
    rotate_left
    · rw [decide_eq_false (show ¬ V.int d1 = V.int d2 from fun z => e4 (by injection z))]
      exact iteF (no (p := d1 = d2) e4 (by rw [Bool.eq_iff_iff]; simp [e4]))
    subst e4
    rw [decide_eq_true rfl]
    refine iteT ⟨_, rfl, x, _, dx, _, _, rfl, hx, T.cl_Ladder, T.nA_Ladder_count, rfl, _, rfl, y, _, dy, _, _, rfl, hy, T.cl_Ladder, T.nA_Ladder_count, rfl, rfl, _, rfl, ?_⟩
    by_cases e5 : s1 = s2
    rotate_left
    · rw [decide_eq_false (show ¬ V.int s1 = V.int s2 from fun z => e5 (by injection z))]
      exact iteF (no (p := s1 = s2) e5 (by rw [Bool.eq_iff_iff]; simp [e5]))
    subst e5
    rw [decide_eq_true rfl]
    refine iteT ⟨_, rfl, x, _, dx, _, _, rfl, hx, T.cl_Ladder, T.nA_Ladder_most_wrongs, rfl, _, rfl, y, _, dy, _, _, rfl, hy, T.cl_Ladder, T.nA_Ladder_most_wrongs, rfl, rfl, ?_⟩
    rw [show decide (V.int m1 = V.int m2) = decide (h1 = h1 ∧ f1 = f1 ∧ u1 = u1 ∧ d1 = d1 ∧ s1 = s1 ∧ m1 = m2) by rw [Bool.eq_iff_iff]; simp]
    exact k
end
end K11

namespace K11
open PySem PySem.Spec PyProof.Rows L2 Gg TL
section
variable {P : Program} {w : World} {K : PySem.W.Frag} {mg : Str → Option Value} {base : Heap} {a : Ad}
theorem cmul_lv {i : Int} (h0 : 0 ≤ i) (h1 : i < 100) : CMul i 8 := .inr (by decide)
theorem take0 {h : Int} (h1 : 1 ≤ h) (h6 : h ≤ 6) : (List.replicate h.toNat [V.int 0]).flatten = (([0, 0, 0, 0, 0, 0] : List Int).take h.toNat).map V.int := by
  have hh : h.toNat = 1 ∨ h.toNat = 2 ∨ h.toNat = 3 ∨ h.toNat = 4 ∨ h.toNat = 5 ∨ h.toNat = 6 := by omega
  rcases hh with e | e | e | e | e | e <;> rw [e] <;> rfl
theorem ok_first_state (T : Txt K mg a) : FnOk P w K mg base CX0 1 a.f_first_state a.d_first_state P_first_state (spLad0 a.c_Ladder) := by
  refine T.F_first_state.ok sc_first_state (fun vs H Q E h => ?_) (fun cdv A outer s H vs Q E hr h => ?_)
  · obtain ⟨x, t, rfl, _⟩ := h
    rfl
  · obtain ⟨x, t, rfl, ⟨dx, hx⟩, ht, k⟩ := h
    refine ⟨_, (pss_one (ps_ret (pe_tup (pa_cons (pe_fld (pv 0) (by rfl)) (pa_cons pe_int (pa_cons pe_int (pa_cons (pe_op (op_or2 op_repT1 op_repT) (pe_tup (pa_cons pe_int pa_nil)) (pe_fld (pv 0) (by rfl))) (pa_cons pe_int pa_nil)))))))), ?_⟩
    have h1 := ht.1
    refine ⟨_, rfl, x, _, dx, _, _, rfl, hx, T.cl_Ladder, T.nA_Ladder_begin, rfl, by show 1 ≤ sizeLine; decide, fun z nz => ?_⟩
    have fz := same_upd nz (o := .tup [V.int 0])
    refine ⟨_, rfl, x, _, dx, _, _, rfl, fz _ _ hx, T.cl_Ladder, T.nA_Ladder_levels, rfl, ?_⟩
    by_cases e1 : t.h = 1
    · refine .inl ⟨z, _, rfl, by rw [e1], tup_of upd_same, by simp, by show 5 ≤ sizeLine; decide, fun p np => ?_⟩
      refine k _ p (fz.trans (same_upd np)) ⟨z, upd_same, ?_⟩
      rw [(same_upd np) _ _ upd_same, e1]
      rfl
    · refine .inr ⟨z, t.h, _, rfl, rfl, tup_of upd_same, by simp, by omega, by omega, by show 1 ≤ 1000; decide, fun q nq => ⟨by show 5 ≤ sizeLine; decide, fun p np => ?_⟩⟩
      have fq := same_upd nq (o := .tup (List.replicate t.h.toNat [V.int 0]).flatten)
      refine k _ p ((fz.trans fq).trans (same_upd np)) ⟨q, upd_same, ?_⟩
      rw [(same_upd np) _ _ upd_same, take0 h1.1 h1.2]
      rfl
theorem ok_has_ended (T : Txt K mg a) : FnOk P w K mg base CX0 1 a.f_has_ended a.d_has_ended P_has_ended (spEnded a.c_Ladder) := by
  refine T.F_has_ended.ok sc_has_ended (fun vs H Q E h => ?_) (fun cdv A outer s H vs Q E hr h => ?_)
  · obtain ⟨x, p, t, i, st, rfl, _⟩ := h
    rfl
  · obtain ⟨x, p, t, i, st, rfl, ⟨dx, hx⟩, ⟨ak, hp, hak⟩, I, k⟩ := h
    refine ⟨_, (Evl.pss_cut (ps_set (i := 2) sc_has_ended.nd rfl (Or.inl rfl) (pe_callB (cr_sumT rfl) (by rfl) T.z_sum (by decide +kernel) (pa_cons (pe_ix ix_tup (pv 1) pe_int (by intro _ _; rfl)) pa_nil)))
  (Evl.pss_cut (ps_set (i := 3) sc_has_ended.nd rfl (Or.inl rfl) (pe_op op_sub (pv 2) (pe_ix ix_tup (pv 1) pe_int (by intro _ _; rfl))))
  (Evl.pss_cut (ps_if (PW.pt (pw_and (pt_cmpR op_gt (pe_fld (pv 0) (by rfl)) pe_int (nomark _)) (pw_and1 (pt_cmpR op_eq (pv 3) (pe_fld (pv 0) (by rfl)) (nomark _)))))
    (pss_one (ps_ret pe_bl))
    pss_nil)
  (pss_one (ps_ret (pe_cmpR op_eq (pv 2) (pe_fld (pv 0) (by rfl)) (nomark _))))))), ?_⟩
    refine ⟨fun σ H1 => σ = [some (.ref x), some (.ref p), some (.int (i : Int)), none] ∧ H1 = H, ?_, ?_⟩
    · refine ⟨_, rfl, p, _, 3, _, rfl, rfl, tup_of hp, atI3, ak, _, rfl, tup_of hak, ?_⟩
      rw [I.sum]
      exact ⟨rfl, rfl⟩
    rintro σ H1 ⟨rfl, rfl⟩
    refine ⟨fun σ H2 => σ = [some (.ref x), some (.ref p), some (.int (i : Int)), some (.int st.lost)] ∧ H2 = H1, ?_, ?_⟩
    · refine ⟨_, rfl, _, rfl, p, _, 4, _, rfl, rfl, tup_of hp, atI4, _, _, rfl, rfl, ?_, rfl⟩
      show [_, _, _, some (V.int ((i : Int) - ((i : Int) - st.lost)))] = _
      rw [show (i : Int) - ((i : Int) - st.lost) = st.lost by omega]
    rintro σ H2 ⟨rfl, rfl⟩
    refine ⟨fun σ H3 => σ = [some (.ref x), some (.ref p), some (.int (i : Int)), some (.int st.lost)] ∧ H3 = H2 ∧ ¬ (0 < t.mo ∧ st.lost = t.mo), ?_, ?_⟩
    · refine ⟨_, rfl, x, _, dx, _, _, rfl, hx, T.cl_Ladder, T.nA_Ladder_most_wrongs, rfl, _, _, rfl, rfl, _, rfl, ?_⟩
      by_cases h1 : 0 < t.mo
      · rw [decide_eq_true h1]
        refine iteT ⟨_, rfl, _, rfl, x, _, dx, _, _, rfl, hx, T.cl_Ladder, T.nA_Ladder_most_wrongs, rfl, rfl, _, rfl, ?_⟩
        by_cases h2 : st.lost = t.mo
        · rw [decide_eq_true (show V.int st.lost = V.int t.mo by rw [h2])]
          rw [decide_eq_true (.inr ⟨h1, h2⟩)] at k
          exact iteT k
        · rw [decide_eq_false (show ¬ V.int st.lost = V.int t.mo from fun z => h2 (by injection z))]
          exact iteF ⟨rfl, rfl, fun z => h2 z.2⟩
      · rw [decide_eq_false h1]
        exact iteF (iteF ⟨rfl, rfl, fun z => h1 z.1⟩)
    rintro σ H3 ⟨rfl, rfl, hn⟩
    refine ⟨_, rfl, _, rfl, x, _, dx, _, _, rfl, hx, T.cl_Ladder, T.nA_Ladder_count, rfl, rfl, ?_⟩
    rw [show decide (V.int (i : Int) = V.int t.sz) = decide ((i : Int) = t.sz ∨ (0 < t.mo ∧ st.lost = t.mo)) by rw [Bool.eq_iff_iff]; simp [hn]]
    exact k
theorem ok_question_of (T : Txt K mg a) : FnOk P w K mg base CX0 1 a.f_question_of a.d_question_of P_question_of spQuest := by
  refine T.F_question_of.ok sc_question_of (fun vs H Q E h => ?_) (fun cdv A outer s H vs Q E hr h => ?_)
  · obtain ⟨p, t, i, st, rfl, _⟩ := h
    rfl
  · obtain ⟨p, t, i, st, rfl, ht, ⟨ak, hp, hak⟩, I, k⟩ := h
    refine ⟨_, (Evl.pss_cut (ps_par (i := 1) (j := 2) (by rfl) sc_question_of.nd rfl rfl (by decide) rfl rfl (pa_cons (pe_ix ix_tup (pv 0) pe_int (by intro _ _; rfl)) (pa_cons (pe_ix ix_tup (pv 0) pe_int (by intro _ _; rfl)) pa_nil)) (by rfl))
  (pss_one (ps_ret (pe_op op_add (pe_op op_mul (pe_op op_sub (pv 1) pe_int) (pe_glob (v := .int 8) (by rfl) T.g_QUESTIONS_OF_A_LEVEL ⟨_, rfl⟩)) (pe_ix ix_tup (pv 2) (pe_op op_sub (pv 1) pe_int) (by intro _ _; rfl)))))), ?_⟩
    have hg := I.get ht
    have hl := I.lv
    have hh := ht.1
    obtain ⟨n, hn⟩ := Int.eq_ofNat_of_zero_le (show 0 ≤ st.lv - 1 by omega)
    refine ⟨fun σ H1 => σ = [some (.ref p), some (.int st.lv), some (.ref ak)] ∧ H1 = H, ?_, ?_⟩
    · exact ⟨_, rfl, p, _, 0, _, rfl, rfl, tup_of hp, atI0, _, rfl, p, _, 3, _, rfl, rfl, tup_of hp, atI3, _, _, rfl, rfl, rfl⟩
    rintro σ H1 ⟨rfl, rfl⟩
    have hat : atI ((st.as.take t.h.toNat).map V.int) (st.lv - 1) = some (.int st.at_) := by
      rw [hn]
      refine at_tup (j := n) ?_
      rw [List.getElem?_map, List.getElem?_take, if_pos (by omega), show n = (st.lv - 1).toNat by omega, hg.1]
      rfl
    exact ⟨_, rfl, _, _, rfl, rfl, _, _, rfl, rfl, cmul_lv (by omega) (by omega), _, rfl, _, rfl, _, _, rfl, rfl, ak, _, _, _, rfl, rfl, tup_of hak, hat, _, _, rfl, rfl, k⟩
theorem behind_at {H : Hp} {p ak : Addr} {t : Lad} {i : Nat} {st s' : LSt} {v0 v1 v2 v4 : V} (hp : H p = some (.tup [v0, v1, v2, .ref ak, v4])) (hak : H ak = some (.tup ((st.asked.take t.h.toNat).map V.int))) (e0 : v0 = .int s'.lv) (e1 : v1 = .int s'.ups) (e2 : v2 = .int s'.dns) (e3 : s'.as = st.asked) (e4 : v4 = .int (((i + 1 : Nat) : Int) - s'.lost)) : LStAt H p t (i + 1) s' :=
  ⟨ak, by rw [hp, e0, e1, e2, e4], by rw [hak, e3]⟩
theorem ok_state_behind (T : Txt K mg a) : FnOk P w K mg base CX0 1 a.f_state_behind a.d_state_behind P_state_behind (spBehind a.c_Ladder) := by
  refine T.F_state_behind.ok sc_state_behind (fun vs H Q E h => ?_) (fun cdv A outer s H vs Q E hr h => ?_)
  · obtain ⟨x, p, t, i, st, a', rfl, _⟩ := h
    rfl
  · obtain ⟨x, p, t, i, st, a', rfl, ht, ⟨dx, hx⟩, ⟨ak, hp, hak⟩, I, ha', k⟩ := h
    refine ⟨_, (Evl.pss_cut (ps_asg (pv 1) (pg_tup rfl (pgs_cons (pg_name (i := 3) sc_state_behind.nd rfl (Or.inl rfl)) (pgs_cons (pg_name (i := 4) sc_state_behind.nd rfl (Or.inl rfl)) (pgs_cons (pg_name (i := 5) sc_state_behind.nd rfl (Or.inl rfl)) (pgs_cons (pg_name (i := 6) sc_state_behind.nd rfl (Or.inl rfl)) (pgs_cons (pg_name (i := 7) sc_state_behind.nd rfl (Or.inl rfl)) pgs_nil)))))))
  (Evl.pss_cut (ps_set (i := 6) sc_state_behind.nd rfl (Or.inl rfl) (pe_op op_catA (pe_op op_catA (pe_slice sl_tupA (pv 6) po_none (po_some (pe_op op_sub (pv 3) pe_int))) (pe_tup (pa_cons (pe_op op_add (pe_ix ix_tup (pv 6) (pe_op op_sub (pv 3) pe_int) (by intro _ _; rfl)) pe_int) pa_nil))) (pe_slice sl_tupA (pv 6) (po_some (pv 3)) po_none)))
  (Evl.pss_cut (ps_if (PW.pt (pw_and (pt_cmpR op_eq (pv 2) pe_int (nomark _)) (pw_and1 (pt_cmpR op_eq (pe_op op_add (pv 4) pe_int) (pe_fld (pv 0) (by rfl)) (nomark _)))))
    (pss_one (ps_ret (pe_tup (pa_cons (pe_ifExp (pt_cmpR op_lt (pv 3) (pe_fld (pv 0) (by rfl)) (nomark _)) (pe_op op_add (pv 3) pe_int) (pv 3)) (pa_cons pe_int (pa_cons pe_int (pa_cons (pv 6) (pa_cons (pe_op op_add (pv 7) pe_int) pa_nil))))))))
    pss_nil)
  (Evl.pss_cut (ps_if (pt_cmpR op_eq (pv 2) pe_int (nomark _))
    (pss_one (ps_ret (pe_tup (pa_cons (pv 3) (pa_cons (pe_op op_add (pv 4) pe_int) (pa_cons pe_int (pa_cons (pv 6) (pa_cons (pe_op op_add (pv 7) pe_int) pa_nil))))))))
    pss_nil)
  (Evl.pss_cut (ps_if (pt_cmpR op_eq (pe_op op_add (pv 5) pe_int) (pe_fld (pv 0) (by rfl)) (nomark _))
    (pss_one (ps_ret (pe_tup (pa_cons (pe_ifExp (pt_cmpR op_gt (pv 3) pe_int (nomark _)) (pe_op op_sub (pv 3) pe_int) (pv 3)) (pa_cons pe_int (pa_cons pe_int (pa_cons (pv 6) (pa_cons (pv 7) pa_nil))))))))
    pss_nil)
  (pss_one (ps_ret (pe_tup (pa_cons (pv 3) (pa_cons pe_int (pa_cons (pe_op op_add (pv 5) pe_int) (pa_cons (pv 6) (pa_cons (pv 7) pa_nil))))))))))))), ?_⟩
    have hg := I.get ht
    have hl := I.lv
    have hh := ht.1
    obtain ⟨n, hn⟩ := Int.eq_ofNat_of_zero_le (show 0 ≤ st.lv - 1 by omega)
    have hn1 : st.lv = ((n + 1 : Nat) : Int) := by omega
    have hnn : (st.lv - 1).toNat = n := by omega
    rw [hnn] at hg
    have hlen : (st.as.take t.h.toNat).length = t.h.toNat := by rw [List.length_take, I.len]; omega
    have hat : atI ((st.as.take t.h.toNat).map V.int) (st.lv - 1) = some (.int st.at_) := by
      rw [hn]
      refine at_tup (j := n) ?_
      rw [List.getElem?_map, List.getElem?_take, if_pos (by omega), hg.1]
      rfl
    refine ⟨fun σ H1 => σ = [some (.ref x), some (.ref p), some (.int a'), some (.int st.lv), some (.int st.ups), some (.int st.dns), some (.ref ak), some (.int ((i : Int) - st.lost))] ∧ H1 = H, ?_, ?_⟩
    · exact ⟨_, rfl, p, _, rfl, tup_of hp, rfl, _, _, rfl, _, _, rfl, _, _, rfl, _, _, rfl, _, _, rfl, rfl, rfl, rfl⟩
    rintro σ H1 ⟨rfl, rfl⟩
    -- asked once more
    refine ⟨fun σ H2 => ∃ bk, σ = [some (.ref x), some (.ref p), some (.int a'), some (.int st.lv), some (.int st.ups), some (.int st.dns), some (.ref bk), some (.int ((i : Int) - st.lost))] ∧ Same H1 H2 ∧ H2 bk = some (.tup ((st.asked.take t.h.toNat).map V.int)), ?_, ?_⟩
    · refine ⟨_, rfl, noP ⟨_, rfl, _, _, rfl, rfl, _, rfl, ?_⟩⟩
      rw [hn]
      refine slA_to hak fun H2 r1 f2 hr1 => ?_
      refine ⟨_, rfl, _, rfl, _, _, rfl, rfl, ak, _, _, _, rfl, rfl, tup_of (f2 _ _ hak), hat, _, _, rfl, rfl, by show 1 ≤ sizeLine; decide, fun r2 n2 => ?_⟩
      have f3 := same_upd n2 (o := .tup [V.int (st.at_ + 1)])
      refine catA_any (f3 _ _ hr1) upd_same ?_ fun H4 r3 f4 hr3 => ?_
      · rw [List.length_take, List.length_map, hlen]
        show _ + 1 ≤ sizeLine
        rw [sizeLine_eq]
        omega
      refine ⟨_, rfl, _, rfl, _, rfl, noP ?_⟩
      rw [hn1]
      refine slA_from (((f2.trans f3).trans f4) _ _ hak) fun H5 r4 f5 hr4 => ?_
      refine catA_any (f5 _ _ hr3) hr4 ?_ fun H6 r5 f6 hr5 => ⟨r5, rfl, (((f2.trans f3).trans f4).trans f5).trans f6, ?_⟩
      · rw [List.length_append, List.length_take, List.length_drop, List.length_map, hlen]
        show _ + 1 + _ ≤ sizeLine
        rw [sizeLine_eq]
        omega
      rw [hr5, show ([V.int (st.at_ + 1)] : List V) = [V.int (st.at_ + 1)] from rfl, set_cut (by rw [List.length_map, hlen]; exact hg.2)]
      unfold LSt.asked
      rw [hnn, List.take_set, List.map_set]
    rintro σ H2 ⟨bk, rfl, f2, hbk⟩
    have hx2 := f2 _ _ hx
    have alloc : ∀ {H' : Hp} {p' : Addr} {v0 v1 v2 v4 : V} {s' : LSt}, Same H2 H' → H' p' = none → s' = ladStep t st a' → v0 = .int s'.lv → v1 = .int s'.ups → v2 = .int s'.dns → v4 = .int (((i + 1 : Nat) : Int) - s'.lost) → s'.as = st.asked → Q (.ref p') (upd H' p' (.tup [v0, v1, v2, .ref bk, v4])) := fun {H' p' v0 v1 v2 v4 s'} f np es e0 e1 e2 e4 e3 => by
      subst es
      exact k _ p' ((f2.trans f).trans (same_upd np)) (behind_at upd_same ((same_upd np) _ _ (f _ _ hbk)) e0 e1 e2 e3 e4)
    have e1 : ladStep t st 1 = if st.ups + 1 = t.up then ⟨if st.lv < t.h then st.lv + 1 else st.lv, 0, 0, st.asked, st.lost⟩ else ⟨st.lv, st.ups + 1, 0, st.asked, st.lost⟩ := if_pos rfl
    have e0 : ladStep t st 0 = if st.dns + 1 = t.dn then ⟨if 1 < st.lv then st.lv - 1 else st.lv, 0, 0, st.asked, st.lost + 1⟩ else ⟨st.lv, 0, st.dns + 1, st.asked, st.lost + 1⟩ := if_neg (by decide)
    -- up
    refine ⟨fun σ H3 => σ = [some (.ref x), some (.ref p), some (.int a'), some (.int st.lv), some (.int st.ups), some (.int st.dns), some (.ref bk), some (.int ((i : Int) - st.lost))] ∧ H3 = H2 ∧ ¬ (a' = 1 ∧ st.ups + 1 = t.up), ?_, ?_⟩
    · refine ⟨_, rfl, rfl, _, rfl, ?_⟩
      rcases ha' with rfl | rfl
      · rw [decide_eq_false (show ¬ V.int 0 = V.int 1 from fun z => by cases z)]
        exact iteF (iteF ⟨rfl, rfl, fun z => by omega⟩)
      rw [decide_eq_true rfl]
      refine iteT ⟨_, rfl, _, _, rfl, rfl, _, rfl, x, _, dx, _, _, rfl, hx2, T.cl_Ladder, T.nA_Ladder_up, rfl, rfl, _, rfl, ?_⟩
      by_cases hu : st.ups + 1 = t.up
      · rw [decide_eq_true (show V.int (st.ups + 1) = V.int t.up by rw [hu])]
        rw [if_pos hu] at e1
        refine iteT ⟨_, rfl, _, rfl, x, _, dx, _, _, rfl, hx2, T.cl_Ladder, T.nA_Ladder_levels, rfl, _, _, rfl, rfl, _, rfl, ?_⟩
        by_cases hlv : st.lv < t.h
        · rw [decide_eq_true hlv]
          rw [if_pos hlv] at e1
          exact iteT ⟨_, rfl, _, _, rfl, rfl, _, rfl, _, rfl, _, _, rfl, rfl, by show 5 ≤ sizeLine; decide, fun p' np => alloc (Same.refl _) np e1.symm rfl rfl rfl (congrArg V.int (show (i : Int) - st.lost + 1 = ((i + 1 : Nat) : Int) - st.lost by omega)) rfl⟩
        · rw [decide_eq_false hlv]
          rw [if_neg hlv] at e1
          exact iteF ⟨_, rfl, _, rfl, _, rfl, _, _, rfl, rfl, by show 5 ≤ sizeLine; decide, fun p' np => alloc (Same.refl _) np e1.symm rfl rfl rfl (congrArg V.int (show (i : Int) - st.lost + 1 = ((i + 1 : Nat) : Int) - st.lost by omega)) rfl⟩
      · rw [decide_eq_false (show ¬ V.int (st.ups + 1) = V.int t.up from fun z => hu (by injection z))]
        exact iteF ⟨rfl, rfl, fun z => hu z.2⟩
    rintro σ H3 ⟨rfl, rfl, hn1'⟩
    refine ⟨fun σ H4 => σ = [some (.ref x), some (.ref p), some (.int a'), some (.int st.lv), some (.int st.ups), some (.int st.dns), some (.ref bk), some (.int ((i : Int) - st.lost))] ∧ H4 = H3 ∧ a' = 0, ?_, ?_⟩
    · refine ⟨_, rfl, rfl, _, rfl, ?_⟩
      rcases ha' with rfl | rfl
      · rw [decide_eq_false (show ¬ V.int 0 = V.int 1 from fun z => by cases z)]
        exact iteF ⟨rfl, rfl, rfl⟩
      rw [decide_eq_true rfl]
      rw [if_neg (fun z => hn1' ⟨rfl, z⟩)] at e1
      exact iteT ⟨_, rfl, _, rfl, _, _, rfl, rfl, _, rfl, _, rfl, _, _, rfl, rfl, by show 5 ≤ sizeLine; decide, fun p' np => alloc (Same.refl _) np e1.symm rfl rfl rfl (congrArg V.int (show (i : Int) - st.lost + 1 = ((i + 1 : Nat) : Int) - st.lost by omega)) rfl⟩
    rintro σ H4 ⟨rfl, rfl, ha0⟩
    refine ⟨fun σ H5 => σ = [some (.ref x), some (.ref p), some (.int a'), some (.int st.lv), some (.int st.ups), some (.int st.dns), some (.ref bk), some (.int ((i : Int) - st.lost))] ∧ H5 = H4 ∧ ¬ st.dns + 1 = t.dn, ?_, ?_⟩
    · refine ⟨_, rfl, _, _, rfl, rfl, _, rfl, x, _, dx, _, _, rfl, hx2, T.cl_Ladder, T.nA_Ladder_down, rfl, rfl, _, rfl, ?_⟩
      by_cases hd : st.dns + 1 = t.dn
      · rw [decide_eq_true (show V.int (st.dns + 1) = V.int t.dn by rw [hd])]
        rw [if_pos hd] at e0
        refine iteT ⟨_, rfl, _, _, rfl, rfl, _, rfl, ?_⟩
        by_cases hlv : 1 < st.lv
        · rw [decide_eq_true hlv]
          rw [if_pos hlv] at e0
          exact iteT ⟨_, rfl, _, _, rfl, rfl, _, rfl, _, rfl, by show 5 ≤ sizeLine; decide, fun p' np => alloc (Same.refl _) np (e0.symm.trans (congrArg (ladStep t st) ha0.symm)) rfl rfl rfl (congrArg V.int (show (i : Int) - st.lost = ((i + 1 : Nat) : Int) - (st.lost + 1) by omega)) rfl⟩
        · rw [decide_eq_false hlv]
          rw [if_neg hlv] at e0
          exact iteF ⟨_, rfl, _, rfl, _, rfl, by show 5 ≤ sizeLine; decide, fun p' np => alloc (Same.refl _) np (e0.symm.trans (congrArg (ladStep t st) ha0.symm)) rfl rfl rfl (congrArg V.int (show (i : Int) - st.lost = ((i + 1 : Nat) : Int) - (st.lost + 1) by omega)) rfl⟩
      · rw [decide_eq_false (show ¬ V.int (st.dns + 1) = V.int t.dn from fun z => hd (by injection z))]
        exact iteF ⟨rfl, rfl, hd⟩
    rintro σ H5 ⟨rfl, rfl, hd⟩
    rw [if_neg hd] at e0
    exact ⟨_, rfl, _, rfl, _, _, rfl, rfl, _, rfl, _, rfl, by show 5 ≤ sizeLine; decide, fun p' np => alloc (Same.refl _) np (e0.symm.trans (congrArg (ladStep t st) ha0.symm)) rfl rfl rfl (congrArg V.int (show (i : Int) - st.lost = ((i + 1 : Nat) : Int) - (st.lost + 1) by omega)) rfl⟩
end
end K11

namespace K11
open PySem PySem.Spec PyProof.Rows L2 Gg TL
section
variable {P : Program} {w : World} {K : PySem.W.Frag} {mg : Str → Option Value} {base : Heap} {a : Ad}
theorem ok_ladder_run (T : Txt K mg a) : FnOk P w K mg base CX0 3 a.f_ladder_run a.d_ladder_run P_ladder_run (spLadRun a.c_Ladder a.c_Pupil) := by
  refine T.F_ladder_run.ok sc_ladder_run (fun vs H Q E h => ?_) (fun cdv A outer s H vs Q E hr h => ?_)
  · obtain ⟨x, y, t, l, rfl, _⟩ := h
    rfl
  · obtain ⟨x, y, t, l, rfl, ht, hx, hy, k⟩ := h
    refine ⟨_, (Evl.pss_cut (ps_set (i := 2) sc_ladder_run.nd rfl (Or.inl rfl) (pe_lst pa_nil))
  (Evl.pss_cut (ps_set (i := 3) sc_ladder_run.nd rfl (Or.inl rfl) (pe_call (ok_first_state T) (hr.mono (by decide)) (by rfl) T.g_first_state T.k_first_state T.b_first_state .nil pass0 (pa_cons (pv 0) pa_nil)))
  (Evl.pss_cut (ps_while PassesOwn.never (pt_not (pt_val (pe_call (ok_has_ended T) (hr.mono (by decide)) (by rfl) T.g_has_ended T.k_has_ended T.b_has_ended .nil pass0 (pa_cons (pv 0) (pa_cons (pv 3) pa_nil)))))
    (Evl.pss_cut (ps_set (i := 4) sc_ladder_run.nd rfl (Or.inl rfl) (pe_call (ok_question_of T) (hr.mono (by decide)) (by rfl) T.g_question_of T.k_question_of T.b_question_of .nil pass0 (pa_cons (pv 3) pa_nil)))
  (Evl.pss_cut (ps_set (i := 5) sc_ladder_run.nd rfl (Or.inl rfl) (pe_ifExp (pt_cmpR (in_own (ok_Pupil_contains T) (hr.mono (by decide)) T.s_Pupil_contains T.i_Pupil_contains T.b_Pupil_contains pass0) (pv 4) (pv 1) (by with_unfolding_all rfl)) pe_int pe_int))
  (Evl.pss_cut (ps_expr (pe_bm PySem.F.plainAttrs_list PySem.F.slot_list_append PySem.F.type_list_append mt_append (pv 2) (pa_cons (pe_tup (pa_cons (pv 4) (pa_cons (pv 5) pa_nil))) pa_nil)))
  (pss_one (ps_set (i := 3) sc_ladder_run.nd rfl (Or.inl rfl) (pe_call (ok_state_behind T) (hr.mono (by decide)) (by rfl) T.g_state_behind T.k_state_behind T.b_state_behind .nil pass0 (pa_cons (pv 0) (pa_cons (pv 3) (pa_cons (pv 5) pa_nil))))))))))
  (pss_one (ps_ret (pe_callTy call_tuple_of (by rfl) T.z_tuple (by decide +kernel) (pa_cons (pv 2) pa_nil))))))), ?_⟩
    obtain ⟨ans, hans⟩ : ∃ ans : Int → Nat → Int, ans = fun q _ => if q ∈ norm l then 1 else 0 := ⟨_, rfl⟩
    have hA : ∀ q i, ans q i = 0 ∨ ans q i = 1 := fun q i => by rw [hans]; dsimp only; split <;> omega
    rw [← hans] at k
    have hsz := ht.2.2.2.2.1
    refine ⟨fun σ H1 => ∃ D, σ = [some (.ref x), some (.ref y), some (.ref D), none, none, none] ∧ H D = none ∧ H1 = upd H D (.lst []), ?_, ?_⟩
    · exact ⟨by show 0 ≤ sizeLine; decide, fun D nD => ⟨D, rfl, nD, rfl⟩⟩
    rintro σ H1 ⟨D, rfl, nD, rfl⟩
    have f1 := same_upd nD (o := .lst [])
    refine ⟨fun σ H2 => ∃ p, σ = [some (.ref x), some (.ref y), some (.ref D), some (.ref p), none, none] ∧ Same (upd H D (.lst [])) H2 ∧ LStAt H2 p t 0 (lad0 t), ?_, ?_⟩
    · exact ⟨_, rfl, x, t, rfl, hx.same f1, ht, fun H2 p f2 hp => ⟨p, rfl, f2, hp⟩⟩
    rintro σ H2 ⟨p0, rfl, f2, hp0⟩
    have keep : ∀ {H' : Hp}, (∀ b u, b ≠ D → H b = some u → H' b = some u) → Same H H' := fun {H'} g b u eb => g b u (ne_of_none eb nD) eb
    refine ⟨fun σ H3 => ∃ v3 v4 v5 as rows, σ = [some (.ref x), some (.ref y), some (.ref D), v3, v4, v5] ∧ Same H H3 ∧ H3 D = some (.lst (as.map V.ref)) ∧ RowsAt H3 as rows ∧ LadRun t ans rows, ?_, ?_⟩
    · refine ⟨fun m σ H3 => ∃ (i : Nat) (p : Addr) (v4 v5 : Option V) (as : List Addr), m + i = t.sz.toNat ∧ σ = [some (.ref x), some (.ref y), some (.ref D), some (.ref p), v4, v5] ∧ (∀ b u, b ≠ D → H b = some u → H3 b = some u) ∧ H3 D = some (.lst (as.map V.ref)) ∧ RowsAt H3 as (ladL t ans i) ∧ LStAt H3 p t i (ladS t ans i) ∧ ∀ i', i' < i → ¬ ladStop t ans i', ⟨t.sz.toNat, 0, p0, _, _, [], rfl, rfl, fun b u nb eb => f2 _ _ (f1 _ _ eb), f2 _ _ upd_same, RowsAt.nil, hp0, fun i' h => absurd h (Nat.not_lt_zero _)⟩, ?_⟩
      rintro m σ H3 ⟨i, p, v4, v5, as, hm, rfl, f3, hD, hR, hp, hno⟩
      have I := ladS_inv ht hA i
      have hsame := keep f3
      have hal : as.length = i := by rw [hR.1, ladL_len]
      refine ⟨_, rfl, _, rfl, x, p, t, i, _, rfl, hx.same hsame, hp, I, _, rfl, ?_⟩
      by_cases hs : (i : Int) = t.sz ∨ (0 < t.mo ∧ (ladS t ans i).lost = t.mo)
      · rw [decide_eq_true hs]
        exact ⟨_, _, _, as, _, rfl, hsame, hD, hR, i, by omega, hno, hs, rfl⟩
      rw [decide_eq_false hs]
      have hi : (i : Int) < t.sz := by omega
      have hq := I.q ht hi
      refine ⟨fun σ H9 => ∃ (p : Addr) (v4 v5 : Option V) (as : List Addr), σ = [some (.ref x), some (.ref y), some (.ref D), some (.ref p), v4, v5] ∧ (∀ b u, b ≠ D → H b = some u → H9 b = some u) ∧ H9 D = some (.lst (as.map V.ref)) ∧ RowsAt H9 as (ladL t ans (i + 1)) ∧ LStAt H9 p t (i + 1) (ladS t ans (i + 1)), fun σ' H' ⟨p, v4, v5, as, e, a1, a2, a3, a4⟩ => ⟨m - 1, by omega, i + 1, p, v4, v5, as, by omega, e, a1, a2, a3, a4, fun i' h => ?_⟩, ?_⟩
      · rcases Nat.lt_or_ge i' i with h' | h'
        · exact hno i' h'
        · rw [show i' = i by omega]
          exact hs
      refine ⟨fun σ H4 => σ = [some (.ref x), some (.ref y), some (.ref D), some (.ref p), some (.int (ladQ (ladS t ans i))), v5] ∧ H4 = H3, ?_, ?_⟩
      · exact ⟨_, rfl, p, t, i, _, rfl, ht, hp, I, rfl, rfl⟩
      rintro σ H4 ⟨rfl, rfl⟩
      refine ⟨fun σ H5 => σ = [some (.ref x), some (.ref y), some (.ref D), some (.ref p), some (.int (ladQ (ladS t ans i))), some (.int (ladA t ans i))] ∧ H5 = H4, ?_, ?_⟩
      · refine ⟨_, rfl, _, rfl, own_has (neg := false) (hy.same hsame) ⟨_, rfl, ?_⟩⟩
        have ea : ladA t ans i = if ladQ (ladS t ans i) ∈ norm l then 1 else 0 := by unfold ladA; rw [hans]
        rw [ea]
        by_cases hin : ladQ (ladS t ans i) ∈ norm l
        · rw [decide_eq_true hin, if_pos hin]
          exact iteT ⟨rfl, rfl⟩
        · rw [decide_eq_false hin, if_neg hin]
          exact iteF ⟨rfl, rfl⟩
      rintro σ H5 ⟨rfl, rfl⟩
      refine ⟨fun σ H6 => ∃ as', σ = [some (.ref x), some (.ref y), some (.ref D), some (.ref p), some (.int (ladQ (ladS t ans i))), some (.int (ladA t ans i))] ∧ (∀ b u, b ≠ D → H5 b = some u → H6 b = some u) ∧ H6 D = some (.lst (as'.map V.ref)) ∧ RowsAt H6 as' (ladL t ans (i + 1)), ?_, ?_⟩
      · refine ⟨_, rfl, .inl ⟨rfl, _, lst_of hD⟩, _, rfl, _, rfl, by show 2 ≤ sizeLine; decide, fun r nr => ?_⟩
        have fr := same_upd nr (o := .tup [V.int (ladQ (ladS t ans i)), .int (ladA t ans i)])
        have nrD : r ≠ D := (ne_of_none hD nr).symm
        refine ⟨D, _, _, rfl, rfl, fr _ _ hD, by rw [List.length_map, sizeLine_eq]; omega, as ++ [r], rfl, fun b u nb eb => by rw [upd_ne nb]; exact fr _ _ eb, by rw [upd_same, List.map_append]; rfl, ?_⟩
        rw [ladL_succ]
        exact RowsAt.snoc ((hR.same fr).upd_lst (fr _ _ hD)) (by rw [upd_ne nrD, upd_same]; rfl)
      rintro σ H6 ⟨as', rfl, f6, hD6, hR6⟩
      have hst6 : LStAt H6 p t i (ladS t ans i) := by
        obtain ⟨ak, h1, h2⟩ := hp
        exact ⟨ak, f6 _ _ (ne_of h1 hD (by intro z; cases z)) h1, f6 _ _ (ne_of h2 hD (by intro z; cases z)) h2⟩
      have f36 : ∀ b u, b ≠ D → H b = some u → H6 b = some u := fun b u nb eb => f6 b u nb (f3 b u nb eb)
      exact ⟨_, rfl, _, rfl, _, rfl, x, p, t, i, _, _, rfl, ht, hx.same (keep f36), hst6, I, hA _ _, fun H7 p' f7 hp' => ⟨p', _, _, as', rfl, fun b u nb eb => f7 _ _ (f36 b u nb eb), f7 _ _ hD6, hR6.same f7, hp'⟩⟩
    rintro σ H3 ⟨v3, v4, v5, as, rows, rfl, f3, hD, hR, hrun⟩
    exact ⟨_, rfl, D, _, rfl, .inl ⟨lst_of hD, fun r nr => k _ r as rows (f3.trans (same_upd nr)) upd_same (hR.same (same_upd nr)) hrun⟩⟩
end
end K11

namespace K11
open PySem PySem.Spec PyProof.Rows L2 Gg TL
section
variable {P : Program} {w : World} {K : PySem.W.Frag} {mg : Str → Option Value} {base : Heap} {a : Ad}
def spIsInt : Sp := fun vs H Q _ => ∃ i : Int, vs = [.int i] ∧ Q (.bl true) H
theorem ok_l_is_integer (T : Txt K mg a) : FnOk P w K mg base CX0 1 a.f_l_is_integer a.d_l_is_integer P_l_is_integer spIsInt := by
  refine T.F_l_is_integer.ok sc_l_is_integer (fun vs H Q E h => ?_) (fun cdv A outer s H vs Q E hr h => ?_)
  · obtain ⟨i, rfl, _⟩ := h
    rfl
  · obtain ⟨i, rfl, k⟩ := h
    refine ⟨_, (pss_one (ps_ret (pe_and (pe_callB call_isi (by rfl) T.z_isinstance (by decide +kernel) (pa_cons (pv 0) (pa_cons (pe_bltn (v := .ty "int") (by rfl) T.z_int (by decide +kernel) rfl) pa_nil))) (pe_one (pe_not (pe_callB call_isi (by rfl) T.z_isinstance (by decide +kernel) (pa_cons (pv 0) (pa_cons (pe_bltn (v := .ty "bool") (by rfl) T.z_bool (by decide +kernel) rfl) pa_nil)))))))), ?_⟩
    have k1 : PySem.W.kitOne K (.type "int") (.type "int") = some true := kit_ty (by decide +kernel)
    have k2 : PySem.W.kitOne K (.type "int") (.type "bool") = some false := kit_ty (by decide +kernel)
    exact ⟨_, rfl, _, _, _, _, true, rfl, .ty _, .base (.int i), k1, _, rfl, iteT ⟨_, rfl, _, _, _, _, false, rfl, .ty _, .base (.int i), k2, _, rfl, k⟩⟩
theorem ok_l_ladder (T : Txt K mg a) : FnOk P w K mg base CX0 2 a.f_l_ladder a.d_l_ladder P_l_ladder (spLadder K) := by
  refine T.F_l_ladder.ok sc_l_ladder (fun vs H Q E h => ?_) (fun cdv A outer s H vs Q E hr h => ?_)
  · obtain ⟨p, c, rfl, _⟩ := h
    rfl
  · obtain ⟨p, c, rfl, hp, hc, k⟩ := h
    refine ⟨_, (Evl.pss_cut (ps_set (i := 1) sc_l_ladder.nd rfl (Or.inl rfl) (pe_op op_add pe_int (pe_call (ok_l_draw T) (hr.mono (by decide)) (by rfl) T.g_l_draw T.k_l_draw T.b_l_draw .nil pass0 (pa_cons (pv 0) (pa_cons pe_int pa_nil)))))
  (Evl.pss_cut (ps_set (i := 2) sc_l_ladder.nd rfl (Or.inl rfl) (pe_op op_add pe_int (pe_call (ok_l_draw T) (hr.mono (by decide)) (by rfl) T.g_l_draw T.k_l_draw T.b_l_draw .nil pass0 (pa_cons (pv 0) (pa_cons pe_int pa_nil)))))
  (Evl.pss_cut (ps_set (i := 3) sc_l_ladder.nd rfl (Or.inl rfl) (pe_op op_add pe_int (pe_call (ok_l_draw T) (hr.mono (by decide)) (by rfl) T.g_l_draw T.k_l_draw T.b_l_draw .nil pass0 (pa_cons (pv 0) (pa_cons (pv 1) pa_nil)))))
  (Evl.pss_cut (ps_set (i := 4) sc_l_ladder.nd rfl (Or.inl rfl) (pe_op op_add pe_int (pe_call (ok_l_draw T) (hr.mono (by decide)) (by rfl) T.g_l_draw T.k_l_draw T.b_l_draw .nil pass0 (pa_cons (pv 0) (pa_cons pe_int pa_nil)))))
  (Evl.pss_cut (ps_set (i := 5) sc_l_ladder.nd rfl (Or.inl rfl) (pe_op op_add pe_int (pe_call (ok_l_draw T) (hr.mono (by decide)) (by rfl) T.g_l_draw T.k_l_draw T.b_l_draw .nil pass0 (pa_cons (pv 0) (pa_cons pe_int pa_nil)))))
  (pss_one (ps_ret (pe_tup (pa_cons (pv 1) (pa_cons (pv 3) (pa_cons (pv 4) (pa_cons (pv 5) (pa_cons (pv 2) (pa_cons (pe_call (ok_l_draw T) (hr.mono (by decide)) (by rfl) T.g_l_draw T.k_l_draw T.b_l_draw .nil pass0 (pa_cons (pv 0) (pa_cons (pe_op op_add (pv 2) pe_int) pa_nil))) pa_nil)))))))))))))), ?_⟩
    have hlim : (1000000 : Nat) < LIM := by decide
    refine ⟨fun σ H1 => ∃ h : Int, σ = [some (.ref p), some (.int h), none, none, none, none] ∧ (1 ≤ h ∧ h ≤ 6) ∧ Gd H H1 ∧ PoolOk K p (c + 1) H1, ?_, ?_⟩
    · exact ⟨_, rfl, p, c, 6, rfl, hp, by omega, by decide, by decide, fun H1 r g1 p1 r0 r1 => ⟨_, _, rfl, rfl, 1 + r, rfl, ⟨by omega, by omega⟩, g1, p1⟩⟩
    rintro σ H1 ⟨h, rfl, hh, g1, p1⟩
    refine ⟨fun σ H2 => ∃ sz : Int, σ = [some (.ref p), some (.int h), some (.int sz), none, none, none] ∧ (1 ≤ sz ∧ sz ≤ 6) ∧ Gd H H2 ∧ PoolOk K p (c + 2) H2, ?_, ?_⟩
    · exact ⟨_, rfl, p, c + 1, 6, rfl, p1, by omega, by decide, by decide, fun H2 r g2 p2 r0 r1 => ⟨_, _, rfl, rfl, 1 + r, rfl, ⟨by omega, by omega⟩, g1.trans g2, p2⟩⟩
    rintro σ H2 ⟨sz, rfl, hsz, g2, p2⟩
    refine ⟨fun σ H3 => ∃ f : Int, σ = [some (.ref p), some (.int h), some (.int sz), some (.int f), none, none] ∧ (1 ≤ f ∧ f ≤ h) ∧ Gd H H3 ∧ PoolOk K p (c + 3) H3, ?_, ?_⟩
    · exact ⟨_, rfl, _, rfl, p, c + 2, h, rfl, p2, by omega, by omega, Int.lt_of_le_of_lt hh.2 (by decide), fun H3 r g3 p3 r0 r1 => ⟨_, _, rfl, rfl, 1 + r, rfl, ⟨by omega, by omega⟩, g2.trans g3, p3⟩⟩
    rintro σ H3 ⟨f, rfl, hf, g3, p3⟩
    refine ⟨fun σ H4 => ∃ up : Int, σ = [some (.ref p), some (.int h), some (.int sz), some (.int f), some (.int up), none] ∧ (1 ≤ up ∧ up ≤ 3) ∧ Gd H H4 ∧ PoolOk K p (c + 4) H4, ?_, ?_⟩
    · exact ⟨_, rfl, p, c + 3, 3, rfl, p3, by omega, by decide, by decide, fun H4 r g4 p4 r0 r1 => ⟨_, _, rfl, rfl, 1 + r, rfl, ⟨by omega, by omega⟩, g3.trans g4, p4⟩⟩
    rintro σ H4 ⟨up, rfl, hup, g4, p4⟩
    refine ⟨fun σ H5 => ∃ dn : Int, σ = [some (.ref p), some (.int h), some (.int sz), some (.int f), some (.int up), some (.int dn)] ∧ (1 ≤ dn ∧ dn ≤ 3) ∧ Gd H H5 ∧ PoolOk K p (c + 5) H5, ?_, ?_⟩
    · exact ⟨_, rfl, p, c + 4, 3, rfl, p4, by omega, by decide, by decide, fun H5 r g5 p5 r0 r1 => ⟨_, _, rfl, rfl, 1 + r, rfl, ⟨by omega, by omega⟩, g4.trans g5, p5⟩⟩
    rintro σ H5 ⟨dn, rfl, hdn, g5, p5⟩
    refine ⟨_, rfl, _, rfl, _, rfl, _, rfl, _, rfl, _, rfl, _, rfl, _, _, rfl, rfl, p, c + 5, sz + 1, rfl, p5, by omega, by omega, Int.lt_of_le_of_lt (b := 7) (by omega) (by decide), fun H6 r g6 p6 r0 r1 => ⟨by show 6 ≤ sizeLine; decide, fun x nx => ?_⟩⟩
    exact k _ x ⟨h, f, up, dn, sz, r⟩ (g5.trans (g6.trans (same_upd nx).gd)) (p6.upd nx) upd_same ⟨hh, hf, hup, hdn, hsz, r0, by show r ≤ sz; omega⟩
theorem ok_l_made (T : Txt K mg a) : FnOk P w K mg base CX0 3 a.f_l_made a.d_l_made P_l_made (spMade a.c_Ladder) := by
  refine T.F_l_made.ok sc_l_made (fun vs H Q E h => ?_) (fun cdv A outer s H vs Q E hr h => ?_)
  · obtain ⟨x, t, rfl, _⟩ := h
    rfl
  · obtain ⟨x, t, rfl, hx, ht, k⟩ := h
    refine ⟨_, (Evl.pss_cut (ps_asg (pv 0) (pg_tup rfl (pgs_cons (pg_name (i := 1) sc_l_made.nd rfl (Or.inl rfl)) (pgs_cons (pg_name (i := 2) sc_l_made.nd rfl (Or.inl rfl)) (pgs_cons (pg_name (i := 3) sc_l_made.nd rfl (Or.inl rfl)) (pgs_cons (pg_name (i := 4) sc_l_made.nd rfl (Or.inl rfl)) (pgs_cons (pg_name (i := 5) sc_l_made.nd rfl (Or.inl rfl)) (pgs_cons (pg_name (i := 6) sc_l_made.nd rfl (Or.inl rfl)) pgs_nil))))))))
  (pss_one (ps_ret (pe_makeN0 (gV := fun us ws => us ++ ws) T.mk_Ladder (ok_Ladder_init T) (hr.mono (by decide)) (by rfl) T.g_Ladder T.kb_Ladder_init_levels_begin_up_down_count_most_wrongs (passAt0 pass0) (pk_cons (pv 1) (pk_cons (pv 2) (pk_cons (pv 3) (pk_cons (pv 4) (pk_cons (pv 5) (pk_cons (pv 6) pk_nil)))))))))), ?_⟩
    refine ⟨fun σ H1 => σ = [some (.ref x), some (.int t.h), some (.int t.f), some (.int t.up), some (.int t.dn), some (.int t.sz), some (.int t.mo)] ∧ H1 = H, ?_, ?_⟩
    · exact ⟨_, rfl, x, _, rfl, tup_of hx, rfl, _, _, rfl, _, _, rfl, _, _, rfl, _, _, rfl, _, _, rfl, _, _, rfl, rfl, rfl, rfl⟩
    rintro σ H1 ⟨rfl, rfl⟩
    refine ⟨_, rfl, _, rfl, _, rfl, _, rfl, _, rfl, _, rfl, rfl, rfl, fun y dy ny ndy nd => ?_⟩
    have ny2 : upd H1 dy (.own y) y = none := by rw [upd_ne (fun z => nd z.symm)]; exact ny
    have s := (same_upd ndy (o := .own y)).trans (same_upd ny2 (o := .ins a.c_Ladder dy []))
    exact ⟨y, dy, t, rfl, upd_same, ht, fun H' hw f => ⟨rfl, k H' y ny (fun b u eb => f b u (ne_of_none eb ny) (s b u eb)) hw⟩⟩
end
end K11

namespace K11
open PySem PySem.Spec PyProof.Rows L2 Gg TL
section
variable {P : Program} {w : World} {K : PySem.W.Frag} {mg : Str → Option Value} {base : Heap} {a : Ad}
theorem gives_l_ladder_run (T : Txt K mg a) {A : Around} {stk : List Env} {cdg : Value} : GivesTo2 P w K mg base A stk N_l_ladder_run "_law_ladder_run" (defScope s_l_ladder_run) a.f_l_ladder_run cdg (defBody s_l_ladder_run) "_law_answers" 1 TTlad := by
  intro f c' s H Q v1 q tl hr act hc h
  obtain ⟨x, t, ans, rfl, hx, ht, hA, htl, k⟩ := h
  refine ⟨_, (Evl.pss_cut (ps_asg (pv 0) (pg_tup rfl (pgs_cons (pg_name (i := 2) sc_l_ladder_run.nd rfl (Or.inl rfl)) (pgs_cons (pg_name (i := 3) sc_l_ladder_run.nd rfl (Or.inl rfl)) (pgs_cons (pg_name (i := 4) sc_l_ladder_run.nd rfl (Or.inl rfl)) (pgs_cons (pg_name (i := 5) sc_l_ladder_run.nd rfl (Or.inl rfl)) (pgs_cons (pg_name (i := 6) sc_l_ladder_run.nd rfl (Or.inl rfl)) (pgs_cons (pg_name (i := 7) sc_l_ladder_run.nd rfl (Or.inl rfl)) pgs_nil))))))))
  (Evl.pss_cut (ps_set (i := 8) sc_l_ladder_run.nd rfl (Or.inl rfl) (pe_op op_rep (pe_lst (pa_cons pe_int pa_nil)) pe_int))
  (Evl.pss_cut (ps_set (i := 9) sc_l_ladder_run.nd rfl (Or.inl rfl) (pe_lst pa_nil))
  (Evl.pss_cut (ps_set (i := 10) sc_l_ladder_run.nd rfl (Or.inl rfl) pe_int)
  (Evl.pss_cut (ps_set (i := 11) sc_l_ladder_run.nd rfl (Or.inl rfl) pe_int)
  (Evl.pss_cut (ps_set (i := 12) sc_l_ladder_run.nd rfl (Or.inl rfl) pe_int)
  (Evl.pss_cut (ps_for PassesOwn.never rfl (pi_range1 (by rfl) T.z_range (pa_cons (pv 6) pa_nil)) (pg_name (i := 13) sc_l_ladder_run.nd rfl (Or.inl rfl))
    (Evl.pss_cut (ps_if (PW.pt (pw_and (pt_cmpR op_gt (pv 7) pe_int (nomark _)) (pw_and1 (pt_cmpR op_eq (pv 12) (pv 7) (nomark _)))))
    (pss_one ps_break)
    pss_nil)
  (Evl.pss_cut (ps_set (i := 14) sc_l_ladder_run.nd rfl (Or.inl rfl) (pe_op op_add (pe_op op_mul (pe_op op_sub (pv 3) pe_int) pe_int) (pe_ix ix_list (pv 8) (pe_op op_sub (pv 3) pe_int) (by intro _ _; rfl))))
  (Evl.pss_cut (ps_asg (pe_op op_add (pe_ix ix_list (pv 8) (pe_op op_sub (pv 3) pe_int) (by intro _ _; rfl)) pe_int) (pg_sub (pv 8) (pe_op op_sub (pv 3) pe_int) set_list))
  (Evl.pss_cut (ps_set (i := 15) sc_l_ladder_run.nd rfl (Or.inl rfl) (act _ _ _ _ _ (pa_cons (pv 14) (pa_cons (pv 13) pa_nil)) rfl rfl))
  (Evl.pss_cut (ps_expr (pe_bm PySem.F.plainAttrs_list PySem.F.slot_list_append PySem.F.type_list_append mt_append (pv 9) (pa_cons (pe_tup (pa_cons (pv 14) (pa_cons (pv 15) pa_nil))) pa_nil)))
  (Evl.pss_cut (ps_set (i := 10) sc_l_ladder_run.nd rfl (Or.inl rfl) (pe_op op_mul (pe_op op_add (pv 10) pe_int) (pv 15)))
  (Evl.pss_cut (ps_set (i := 11) sc_l_ladder_run.nd rfl (Or.inl rfl) (pe_op op_mul (pe_op op_add (pv 11) pe_int) (pe_op op_sub pe_int (pv 15))))
  (Evl.pss_cut (ps_set (i := 12) sc_l_ladder_run.nd rfl (Or.inl rfl) (pe_op op_sub (pe_op op_add (pv 12) pe_int) (pv 15)))
  (Evl.pss_cut (ps_if (pt_cmpR op_eq (pv 10) (pv 4) (nomark _))
    (Evl.pss_cut (ps_set (i := 10) sc_l_ladder_run.nd rfl (Or.inl rfl) pe_int)
  (pss_one (ps_set (i := 3) sc_l_ladder_run.nd rfl (Or.inl rfl) (pe_op op_add (pv 3) (pe_callTy call_int1 (by rfl) T.z_int (by decide +kernel) (pa_cons (pe_cmpR op_lt (pv 3) (pv 2) (nomark _)) pa_nil))))))
    pss_nil)
  (pss_one (ps_if (pt_cmpR op_eq (pv 11) (pv 5) (nomark _))
    (Evl.pss_cut (ps_set (i := 11) sc_l_ladder_run.nd rfl (Or.inl rfl) pe_int)
  (pss_one (ps_set (i := 3) sc_l_ladder_run.nd rfl (Or.inl rfl) (pe_op op_sub (pv 3) (pe_callTy call_int1 (by rfl) T.z_int (by decide +kernel) (pa_cons (pe_cmpR op_gt (pv 3) pe_int (nomark _)) pa_nil))))))
    pss_nil))))))))))))
  (pss_one (ps_ret (pv 9)))))))))), ?_⟩
  have hh := ht.1
  have hup := ht.2.2.1
  have hdn := ht.2.2.2.1
  have hsz := ht.2.2.2.2.1
  refine ⟨fun σ H1 => σ = [some (.ref x), some (.ref f), some (.int t.h), some (.int t.f), some (.int t.up), some (.int t.dn), some (.int t.sz), some (.int t.mo), none, none, none, none, none, none, none, none] ∧ H1 = H, ?_, ?_⟩
  · exact ⟨_, rfl, x, _, rfl, tup_of hx, rfl, _, _, rfl, _, _, rfl, _, _, rfl, _, _, rfl, _, _, rfl, _, _, rfl, rfl, rfl, rfl⟩
  rintro σ H1 ⟨rfl, rfl⟩
  refine ⟨fun σ H2 => ∃ Ak, σ = [some (.ref x), some (.ref f), some (.int t.h), some (.int t.f), some (.int t.up), some (.int t.dn), some (.int t.sz), some (.int t.mo), some (.ref Ak), none, none, none, none, none, none, none] ∧ Same H1 H2 ∧ H1 Ak = none ∧ H2 Ak = some (.lst ((lad0 t).as.map V.int)), ?_, ?_⟩
  · refine ⟨by show 1 ≤ sizeLine; decide, fun l nl => ?_⟩
    have fl := same_upd nl (o := .lst [V.int 0])
    refine ⟨l, 6, _, rfl, rfl, upd_same, by decide, by decide, by show 1 * 6 ≤ sizeLine; decide, fun Ak nAk => ⟨Ak, rfl, fl.trans (same_upd nAk), fresh_gd fl.gd nAk, ?_⟩⟩
    rw [upd_same]
    rfl
  rintro σ H2 ⟨Ak, rfl, f2, nA, hAk⟩
  refine ⟨fun σ H3 => ∃ R, σ = [some (.ref x), some (.ref f), some (.int t.h), some (.int t.f), some (.int t.up), some (.int t.dn), some (.int t.sz), some (.int t.mo), some (.ref Ak), some (.ref R), none, none, none, none, none, none] ∧ Same H1 H3 ∧ H1 R = none ∧ H3 R = some (.lst []) ∧ H3 Ak = some (.lst ((lad0 t).as.map V.int)) ∧ R ≠ Ak, ?_, ?_⟩
  · exact ⟨by show 0 ≤ sizeLine; decide, fun R nR => ⟨R, rfl, f2.trans (same_upd nR), fresh_gd f2.gd nR, upd_same, (same_upd nR) _ _ hAk, (ne_of_none hAk nR).symm⟩⟩
  rintro σ H3 ⟨R, rfl, f3, nR, hR, hAk3, hRA⟩
  refine ⟨fun σ H4 => σ = [some (.ref x), some (.ref f), some (.int t.h), some (.int t.f), some (.int t.up), some (.int t.dn), some (.int t.sz), some (.int t.mo), some (.ref Ak), some (.ref R), some (.int 0), none, none, none, none, none] ∧ H4 = H3, ⟨rfl, rfl⟩, ?_⟩
  rintro σ H4 ⟨rfl, rfl⟩
  refine ⟨fun σ H5 => σ = [some (.ref x), some (.ref f), some (.int t.h), some (.int t.f), some (.int t.up), some (.int t.dn), some (.int t.sz), some (.int t.mo), some (.ref Ak), some (.ref R), some (.int 0), some (.int 0), none, none, none, none] ∧ H5 = H4, ⟨rfl, rfl⟩, ?_⟩
  rintro σ H5 ⟨rfl, rfl⟩
  refine ⟨fun σ H6 => σ = [some (.ref x), some (.ref f), some (.int t.h), some (.int t.f), some (.int t.up), some (.int t.dn), some (.int t.sz), some (.int t.mo), some (.ref Ak), some (.ref R), some (.int 0), some (.int 0), some (.int 0), none, none, none] ∧ H6 = H5, ⟨rfl, rfl⟩, ?_⟩
  rintro σ H6 ⟨rfl, rfl⟩
  refine ⟨fun σ H7 => ∃ v3 v8 v10 v11 v12 v13 v14 v15 as rows, σ = [some (.ref x), some (.ref f), some (.int t.h), v3, some (.int t.up), some (.int t.dn), some (.int t.sz), some (.int t.mo), v8, some (.ref R), v10, v11, v12, v13, v14, v15] ∧ Same H1 H7 ∧ H7 R = some (.lst (as.map V.ref)) ∧ RowsAt H7 as rows ∧ LadRun t ans rows, ?_, ?_⟩
  · refine ⟨_, rfl, _, rfl, by omega, Int.lt_of_le_of_lt hsz.2 (by decide), ?_⟩
    refine for_range (lo := 0) (n := t.sz.toNat) (fun i σ H7 => ∃ v13 v14 v15 as, σ = [some (.ref x), some (.ref f), some (.int t.h), some (.int (ladS t ans i).lv), some (.int t.up), some (.int t.dn), some (.int t.sz), some (.int t.mo), some (.ref Ak), some (.ref R), some (.int (ladS t ans i).ups), some (.int (ladS t ans i).dns), some (.int (ladS t ans i).lost), v13, v14, v15] ∧ Same H1 H7 ∧ H7 Ak = some (.lst ((ladS t ans i).as.map V.int)) ∧ H7 R = some (.lst (as.map V.ref)) ∧ RowsAt H7 as (ladL t ans i) ∧ ∀ i', i' < i → ¬ ladStop t ans i') ⟨_, _, _, [], rfl, f3, hAk3, hR, RowsAt.nil, fun i' h => absurd h (Nat.not_lt_zero _)⟩ ?_ ?_
    · rintro i σ H7 hi ⟨v13, v14, v15, as, rfl, f7, hAk7, hR7, hRw, hno⟩
      rw [Int.zero_add]
      have I := ladS_inv ht hA i
      have hi' : (i : Int) < t.sz := by omega
      have hal : as.length = i := by rw [hRw.1, ladL_len]
      have hg := I.get ht
      have hlv := I.lv
      have hlo := I.lost
      have hua := I.ups
      have hda := I.dns
      generalize hS : ladS t ans i = st at I hg hlv hlo hua hda hAk7 ⊢
      have hS1 : ladS t ans (i + 1) = ladStep t st (ans (ladQ st) i) := by rw [← hS]; rfl
      have hq := I.q ht hi'
      obtain ⟨n, hn⟩ := Int.eq_ofNat_of_zero_le (show 0 ≤ st.lv - 1 by omega)
      have hnn : (st.lv - 1).toNat = n := by omega
      rw [hnn] at hg
      have hat : atI (st.as.map V.int) (st.lv - 1) = some (.int st.at_) := by
        rw [hn]
        exact at_tup (j := n) (by rw [List.getElem?_map, hg.1]; rfl)
      have hstop : ladStop t ans i ↔ (0 < t.mo ∧ st.lost = t.mo) := by
        unfold ladStop
        rw [hS]
        refine ⟨fun h => ?_, .inr⟩
        rcases h with h | h
        · omega
        · exact h
      refine ⟨fun σ H8 => σ = [some (.ref x), some (.ref f), some (.int t.h), some (.int st.lv), some (.int t.up), some (.int t.dn), some (.int t.sz), some (.int t.mo), some (.ref Ak), some (.ref R), some (.int st.ups), some (.int st.dns), some (.int st.lost), some (.int (i : Int)), v14, v15] ∧ H8 = H7 ∧ ¬ ladStop t ans i, ?_, ?_⟩
      · refine ⟨_, rfl, _, _, rfl, rfl, _, rfl, ?_⟩
        by_cases h1 : 0 < t.mo
        · rw [decide_eq_true h1]
          refine iteT ⟨_, rfl, _, rfl, rfl, _, rfl, ?_⟩
          by_cases h2 : st.lost = t.mo
          · rw [decide_eq_true (show V.int st.lost = V.int t.mo by rw [h2])]
            exact iteT ⟨_, _, _, _, _, _, _, _, as, _, rfl, f7, hR7, hRw, i, by omega, hno, hstop.mpr ⟨h1, h2⟩, rfl⟩
          · rw [decide_eq_false (show ¬ V.int st.lost = V.int t.mo from fun z => h2 (by injection z))]
            exact iteF ⟨rfl, rfl, fun z => h2 (hstop.mp z).2⟩
        · rw [decide_eq_false h1]
          exact iteF (iteF ⟨rfl, rfl, fun z => h1 (hstop.mp z).1⟩)
      rintro σ H8 ⟨rfl, rfl, hns⟩
      refine ⟨fun σ H9 => σ = [some (.ref x), some (.ref f), some (.int t.h), some (.int st.lv), some (.int t.up), some (.int t.dn), some (.int t.sz), some (.int t.mo), some (.ref Ak), some (.ref R), some (.int st.ups), some (.int st.dns), some (.int st.lost), some (.int (i : Int)), some (.int (ladQ st)), v15] ∧ H9 = H8, ?_, ?_⟩
      · exact ⟨_, rfl, _, _, rfl, rfl, _, _, rfl, rfl, .inr (by decide), _, rfl, _, rfl, _, _, rfl, rfl, Ak, _, _, _, rfl, rfl, lst_of hAk7, hat, _, _, rfl, rfl, rfl, rfl⟩
      rintro σ H9 ⟨rfl, rfl⟩
      refine ⟨fun σ H10 => σ = [some (.ref x), some (.ref f), some (.int t.h), some (.int st.lv), some (.int t.up), some (.int t.dn), some (.int t.sz), some (.int t.mo), some (.ref Ak), some (.ref R), some (.int st.ups), some (.int st.dns), some (.int st.lost), some (.int (i : Int)), some (.int (ladQ st)), v15] ∧ Same H1 H10 ∧ H10 Ak = some (.lst (st.asked.map V.int)) ∧ H10 R = some (.lst (as.map V.ref)) ∧ RowsAt H10 as (ladL t ans i), ?_, ?_⟩
      · refine ⟨_, rfl, _, rfl, _, _, rfl, rfl, Ak, _, _, _, rfl, rfl, lst_of hAk7, hat, _, _, rfl, rfl, _, rfl, _, rfl, _, _, rfl, rfl, Ak, _, st.lv - 1, n, rfl, rfl, hAk7, ?_, ?_⟩
        · have hl6 := I.len
          unfold ixN
          rw [if_pos (by omega), if_pos (by rw [List.length_map]; omega), hnn]
        · refine ⟨rfl, f7.mut nA, ?_, by rw [upd_ne hRA]; exact hR7, hRw.upd_lst hAk7⟩
          rw [upd_same]
          unfold LSt.asked
          rw [hnn, List.map_set]
      rintro σ H10 ⟨rfl, f10, hAk10, hR10, hRw10⟩
      refine ⟨fun σ H11 => σ = [some (.ref x), some (.ref f), some (.int t.h), some (.int st.lv), some (.int t.up), some (.int t.dn), some (.int t.sz), some (.int t.mo), some (.ref Ak), some (.ref R), some (.int st.ups), some (.int st.dns), some (.int st.lost), some (.int (i : Int)), some (.int (ladQ st)), some (.int (ans (ladQ st) i))] ∧ H11 = H10, ?_, ?_⟩
      · exact ⟨rfl, _, rfl, _, rfl, f10 _ _ hc, htl _ i _ _ hi' f10 ⟨rfl, rfl⟩⟩
      rintro σ H11 ⟨rfl, rfl⟩
      have ha := hA (ladQ st) i
      have eA : ladA t ans i = ans (ladQ st) i := by unfold ladA; rw [hS]
      generalize ans (ladQ st) i = av at ha hS1 eA ⊢
      refine ⟨fun σ H12 => ∃ as', σ = [some (.ref x), some (.ref f), some (.int t.h), some (.int st.lv), some (.int t.up), some (.int t.dn), some (.int t.sz), some (.int t.mo), some (.ref Ak), some (.ref R), some (.int st.ups), some (.int st.dns), some (.int st.lost), some (.int (i : Int)), some (.int (ladQ st)), some (.int av)] ∧ Same H1 H12 ∧ H12 Ak = some (.lst (st.asked.map V.int)) ∧ H12 R = some (.lst (as'.map V.ref)) ∧ RowsAt H12 as' (ladL t ans (i + 1)), ?_, ?_⟩
      · refine ⟨_, rfl, .inl ⟨rfl, _, lst_of hR10⟩, _, rfl, _, rfl, by show 2 ≤ sizeLine; decide, fun r nr => ?_⟩
        have fr := same_upd nr (o := .tup [V.int (ladQ st), .int av])
        have nrR : r ≠ R := (ne_of_none hR10 nr).symm
        refine ⟨R, _, _, rfl, rfl, fr _ _ hR10, by rw [List.length_map, sizeLine_eq]; omega, as ++ [r], rfl, (f10.trans fr).mut nR, by rw [upd_ne hRA.symm]; exact fr _ _ hAk10, by rw [upd_same, List.map_append]; rfl, ?_⟩
        rw [ladL_succ, hS, eA]
        exact RowsAt.snoc ((hRw10.same fr).upd_lst (fr _ _ hR10)) (by rw [upd_ne nrR, upd_same]; rfl)
      rintro σ H12 ⟨as', rfl, f12, hAk12, hR12, hRw12⟩
      have hno1 : ∀ i', i' < i + 1 → ¬ ladStop t ans i' := fun i' h => by
        rcases Nat.lt_or_ge i' i with h' | h'
        · exact hno i' h'
        · rw [show i' = i by omega]
          exact hns
      have hcm : CMul (st.ups + 1) av := .inr (by rcases ha with rfl | rfl <;> decide)
      have hcm2 : CMul (st.dns + 1) (1 - av) := .inr (by rcases ha with rfl | rfl <;> decide)
      have fin : ∀ {lv r wr lo : Int}, lv = (ladStep t st av).lv → r = (ladStep t st av).ups → wr = (ladStep t st av).dns → lo = (ladStep t st av).lost → ∃ v13 v14 v15 as, ([some (.ref x), some (.ref f), some (.int t.h), some (.int lv), some (.int t.up), some (.int t.dn), some (.int t.sz), some (.int t.mo), some (.ref Ak), some (.ref R), some (.int r), some (.int wr), some (.int lo), some (.int (i : Int)), some (.int (ladQ st)), some (.int av)] : L2.St) = [some (.ref x), some (.ref f), some (.int t.h), some (.int (ladS t ans (i + 1)).lv), some (.int t.up), some (.int t.dn), some (.int t.sz), some (.int t.mo), some (.ref Ak), some (.ref R), some (.int (ladS t ans (i + 1)).ups), some (.int (ladS t ans (i + 1)).dns), some (.int (ladS t ans (i + 1)).lost), v13, v14, v15] ∧ Same H1 H12 ∧ H12 Ak = some (.lst ((ladS t ans (i + 1)).as.map V.int)) ∧ H12 R = some (.lst (as.map V.ref)) ∧ RowsAt H12 as (ladL t ans (i + 1)) ∧ ∀ i', i' < i + 1 → ¬ ladStop t ans i' := fun {lv r wr lo} e1 e2 e3 e4 => by
        have eas : (ladStep t st av).as = st.asked := by
          unfold ladStep
          split <;> split <;> rfl
        refine ⟨_, _, _, as', by rw [hS1, e1, e2, e3, e4], f12, ?_, hR12, hRw12, hno1⟩
        rw [hS1, eas]
        exact hAk12
      refine ⟨fun σ H13 => ∃ r, σ = [some (.ref x), some (.ref f), some (.int t.h), some (.int st.lv), some (.int t.up), some (.int t.dn), some (.int t.sz), some (.int t.mo), some (.ref Ak), some (.ref R), some (.int r), some (.int st.dns), some (.int st.lost), some (.int (i : Int)), some (.int (ladQ st)), some (.int av)] ∧ H13 = H12 ∧ r = (st.ups + 1) * av, ?_, ?_⟩
      · exact ⟨_, rfl, _, _, rfl, rfl, _, rfl, _, _, rfl, rfl, hcm, _, rfl, rfl, rfl⟩
      rintro σ H13 ⟨r, rfl, rfl, hr1⟩
      refine ⟨fun σ H14 => ∃ wr, σ = [some (.ref x), some (.ref f), some (.int t.h), some (.int st.lv), some (.int t.up), some (.int t.dn), some (.int t.sz), some (.int t.mo), some (.ref Ak), some (.ref R), some (.int r), some (.int wr), some (.int st.lost), some (.int (i : Int)), some (.int (ladQ st)), some (.int av)] ∧ H14 = H13 ∧ wr = (st.dns + 1) * (1 - av), ?_, ?_⟩
      · exact ⟨_, rfl, _, _, rfl, rfl, _, rfl, _, _, rfl, rfl, _, _, rfl, rfl, hcm2, _, rfl, rfl, rfl⟩
      rintro σ H14 ⟨wr, rfl, rfl, hw1⟩
      refine ⟨fun σ H15 => ∃ lo, σ = [some (.ref x), some (.ref f), some (.int t.h), some (.int st.lv), some (.int t.up), some (.int t.dn), some (.int t.sz), some (.int t.mo), some (.ref Ak), some (.ref R), some (.int r), some (.int wr), some (.int lo), some (.int (i : Int)), some (.int (ladQ st)), some (.int av)] ∧ H15 = H14 ∧ lo = st.lost + 1 - av, ?_, ?_⟩
      · exact ⟨_, rfl, _, _, rfl, rfl, _, rfl, _, _, rfl, rfl, _, rfl, rfl, rfl⟩
      rintro σ H15 ⟨lo, rfl, rfl, hl1⟩
      rcases ha with ha | ha
      · -- a wrong answer
        have er : r = 0 := by rw [hr1, ha, Int.mul_zero]
        have ew : wr = st.dns + 1 := by rw [hw1, ha]; omega
        have el : lo = st.lost + 1 := by rw [hl1, ha]; omega
        refine ⟨fun σ H16 => σ = [some (.ref x), some (.ref f), some (.int t.h), some (.int st.lv), some (.int t.up), some (.int t.dn), some (.int t.sz), some (.int t.mo), some (.ref Ak), some (.ref R), some (.int r), some (.int wr), some (.int lo), some (.int (i : Int)), some (.int (ladQ st)), some (.int av)] ∧ H16 = H15, ?_, ?_⟩
        · refine ⟨_, rfl, _, rfl, rfl, _, rfl, ?_⟩
          rw [decide_eq_false (show ¬ V.int r = V.int t.up from fun z => by injection z; omega)]
          exact iteF ⟨rfl, rfl⟩
        rintro σ H16 ⟨rfl, rfl⟩
        have e0 : ladStep t st av = if st.dns + 1 = t.dn then ⟨if 1 < st.lv then st.lv - 1 else st.lv, 0, 0, st.asked, st.lost + 1⟩ else ⟨st.lv, 0, st.dns + 1, st.asked, st.lost + 1⟩ := by rw [ha]; exact if_neg (by decide)
        refine ⟨_, rfl, _, rfl, rfl, _, rfl, ?_⟩
        by_cases hd : st.dns + 1 = t.dn
        · rw [decide_eq_true (show V.int wr = V.int t.dn by rw [ew, hd])]
          rw [if_pos hd] at e0
          refine iteT ⟨fun σ H17 => σ = [some (.ref x), some (.ref f), some (.int t.h), some (.int st.lv), some (.int t.up), some (.int t.dn), some (.int t.sz), some (.int t.mo), some (.ref Ak), some (.ref R), some (.int r), some (.int 0), some (.int lo), some (.int (i : Int)), some (.int (ladQ st)), some (.int av)] ∧ H17 = H16, ⟨rfl, rfl⟩, ?_⟩
          rintro σ H17 ⟨rfl, rfl⟩
          refine ⟨_, rfl, _, rfl, _, _, rfl, rfl, .inr ⟨_, rfl, _, _, rfl, rfl, fin ?_ ?_ ?_ ?_⟩⟩
          · rw [e0]
            show st.lv - (if decide (1 < st.lv) = true then 1 else 0) = if 1 < st.lv then st.lv - 1 else st.lv
            by_cases h1 : 1 < st.lv
            · rw [if_pos (decide_eq_true h1), if_pos h1]
            · rw [if_neg (by rw [decide_eq_false h1]; exact Bool.false_ne_true), if_neg h1]
              omega
          · rw [e0, er]
          · rw [e0]
          · rw [e0, el]
        · rw [decide_eq_false (show ¬ V.int wr = V.int t.dn from fun z => hd (by injection z; omega))]
          rw [if_neg hd] at e0
          exact iteF (fin (by rw [e0]) (by rw [e0, er]) (by rw [e0, ew]) (by rw [e0, el]))
      · -- a right one
        have er : r = st.ups + 1 := by rw [hr1, ha, Int.mul_one]
        have ew : wr = 0 := by rw [hw1, ha]; exact Int.mul_zero _
        have el : lo = st.lost := by rw [hl1, ha]; omega
        have e0 : ladStep t st av = if st.ups + 1 = t.up then ⟨if st.lv < t.h then st.lv + 1 else st.lv, 0, 0, st.asked, st.lost⟩ else ⟨st.lv, st.ups + 1, 0, st.asked, st.lost⟩ := by rw [ha]; exact if_pos rfl
        refine ⟨fun σ H16 => ∃ lv r', σ = [some (.ref x), some (.ref f), some (.int t.h), some (.int lv), some (.int t.up), some (.int t.dn), some (.int t.sz), some (.int t.mo), some (.ref Ak), some (.ref R), some (.int r'), some (.int wr), some (.int lo), some (.int (i : Int)), some (.int (ladQ st)), some (.int av)] ∧ H16 = H15 ∧ lv = (ladStep t st av).lv ∧ r' = (ladStep t st av).ups ∧ wr = (ladStep t st av).dns ∧ lo = (ladStep t st av).lost, ?_, ?_⟩
        · refine ⟨_, rfl, _, rfl, rfl, _, rfl, ?_⟩
          by_cases hu : st.ups + 1 = t.up
          · rw [decide_eq_true (show V.int r = V.int t.up by rw [er, hu])]
            rw [if_pos hu] at e0
            refine iteT ⟨fun σ H17 => σ = [some (.ref x), some (.ref f), some (.int t.h), some (.int st.lv), some (.int t.up), some (.int t.dn), some (.int t.sz), some (.int t.mo), some (.ref Ak), some (.ref R), some (.int 0), some (.int wr), some (.int lo), some (.int (i : Int)), some (.int (ladQ st)), some (.int av)] ∧ H17 = H15, ⟨rfl, rfl⟩, ?_⟩
            rintro σ H17 ⟨rfl, rfl⟩
            refine ⟨_, rfl, _, rfl, _, rfl, _, _, rfl, rfl, .inr ⟨_, rfl, _, _, rfl, rfl, _, _, rfl, rfl, ?_, by rw [e0], by rw [e0, ew], by rw [e0, el]⟩⟩
            rw [e0]
            show st.lv + (if decide (st.lv < t.h) = true then 1 else 0) = if st.lv < t.h then st.lv + 1 else st.lv
            by_cases h1 : st.lv < t.h
            · rw [if_pos (decide_eq_true h1), if_pos h1]
            · rw [if_neg (by rw [decide_eq_false h1]; exact Bool.false_ne_true), if_neg h1]
              omega
          · rw [decide_eq_false (show ¬ V.int r = V.int t.up from fun z => hu (by injection z; omega))]
            rw [if_neg hu] at e0
            exact iteF ⟨_, _, rfl, rfl, by rw [e0], by rw [e0, er], by rw [e0, ew], by rw [e0, el]⟩
        rintro σ H16 ⟨lv, r', rfl, rfl, q1, q2, q3, q4⟩
        refine ⟨_, rfl, _, rfl, rfl, _, rfl, ?_⟩
        rw [decide_eq_false (show ¬ V.int wr = V.int t.dn from fun z => by injection z; omega)]
        exact iteF (fin q1 q2 q3 q4)
    · rintro σ H7 ⟨v13, v14, v15, as, rfl, f7, hAk7, hR7, hRw, hno⟩
      exact ⟨_, _, _, _, _, _, _, _, as, _, rfl, f7, hR7, hRw, t.sz.toNat, by omega, hno, .inl (by omega), rfl⟩
  rintro σ H7 ⟨v3, v8, v10, v11, v12, v13, v14, v15, as, rows, rfl, f7, hR7, hRw, hrun⟩
  exact ⟨_, rfl, k H7 R as rows f7 hR7 hRw hrun⟩
end
end K11

namespace K11
open PySem PySem.Spec PyProof.Rows L2 Gg TL
section
variable {P : Program} {w : World} {K : PySem.W.Frag} {mg : Str → Option Value} {base : Heap} {a : Ad}
theorem ok_law (T : Txt K mg a) {oc kV doc pm ct : Value} {od an : Option Addr} {osl : Array (Option Value)} (lk : K.lookup a.f_law = some ⟨oc, od, .func (PySem.W.fnOf "law" "law" (defArgs s_law) (defBody s_law) (defScope s_law) .none kV doc pm an (.ref a.Ct) ct), osl⟩) (hcd : PySem.W.codeIn K (.ref a.Ct) "law" = true) (TB : LamX.TabB base mg a.Ct a.Pt) :
    FnOk P w K mg base CX0 12 a.f_law (PySem.W.fnOf "law" "law" (defArgs s_law) (defBody s_law) (defScope s_law) .none kV doc pm an (.ref a.Ct) ct) P_law (spT K a.Pt) := by
  refine fn_okC lk hcd sc_law (fun vs H Q E h => ?_) (fun A outer s H vs Q E hr h => ?_)
  · obtain ⟨x, ns, rfl, _⟩ := h
    rfl
  · obtain ⟨x, ns, rfl, hx, hl, hP, k⟩ := h
    refine ⟨_, (Evl.pss_cut (ps_set (i := 1) sc_law.nd rfl (Or.inr rfl) (pe_call (ok_l_pool T) (hr.mono (by decide)) (by rfl) T.g_l_pool T.k_l_pool T.b_l_pool .nil pass0 (pa_cons (pv 0) pa_nil)))
  (Evl.pss_cut (ps_set (i := 2) sc_law.nd rfl (Or.inl rfl) (pe_call (ok_l_ladder T) (hr.mono (by decide)) (by rfl) T.g_l_ladder T.k_l_ladder T.b_l_ladder .nil pass0 (pa_cons (pv 1) pa_nil)))
  (Evl.pss_cut (ps_set (i := 3) sc_law.nd rfl (Or.inr rfl) (pe_lc (own := [("_law_k", 13)]) (g := gName 13) (tt := tYes) (te := (tCall (spDraw K) [] E0 (tCons (tVar 1) (tCons (tC (.int 2)) tNil)))) rfl sc_law.nd (pi_range1 (by rfl) T.z_range (pa_cons pe_int pa_nil)) (blkOk_by (N := N_law) (sc := defScope s_law) (by decide +kernel)) (fun _ _ _ _ _ => pg_name (i := 13) sc_law.nd rfl (Or.inl rfl)) (fun _ _ _ _ _ => pts_nil) (fun _ _ _ _ _ => by exact (pe_call (ok_l_draw T) (hr.mono (by decide)) (by rfl) T.g_l_draw T.k_l_draw T.b_l_draw .nil pass0 (pa_cons (pv 1) (pa_cons pe_int pa_nil))))))
  (Evl.pss_cut (ps_setLc (i := 4) (own := [("_law_question", 11), ("_law_answer", 12)]) (g := (gTup K 2 (gCons (gName 11) (gCons (gName 12) L2.gNil)))) (tt := (tTest (tOp rEq (tVar 12) (tC (.int 1))))) (te := (tVar 11)) rfl sc_law.nd rfl rfl (sw_true rfl rfl rfl (by decide +kernel)) (pi_list (pe_lamcall2F (T := lamT "law" a.Pt) (N := ["_law_question", "_law_k", "_law_wish"]) (ps := ["_law_question", "_law_k"]) (fr := ["_law_wish"]) (js := [3]) (tb := (tOp (rIxL K) (tVar 2) (tVar 1))) (k := 0) T.F_l_ladder_run T.k_l_ladder_run T.b_l_ladder_run (by rfl) T.g_l_ladder_run sc_l_ladder_run rfl (.inl rfl) (fun cdv => gives_l_ladder_run T) TB rfl (List.mem_singleton.mpr rfl) (fun p hp _ => by rw [List.mem_singleton.mp hp]; rfl) (hr.mono (by decide)) (NdefX.nscope_by (by decide +kernel)) (by show NdefX.ndefB (defScope s_law) _ _ = true; decide +kernel) rfl rfl (fun _ _ _ _ _ us hl => match us, hl with | [_, _], _ => rfl) (fun A outer s H f c hr2 => by exact (pe_ix ix_list (pv 2) (pv 1) (by intro _ _; rfl))) (pv 2))) (blkOk_by (N := N_law) (sc := defScope s_law) (by decide +kernel)) (fun _ _ _ _ _ => by exact (pg_tup rfl (pgs_cons (pg_name (i := 11) sc_law.nd rfl (Or.inl rfl)) (pgs_cons (pg_name (i := 12) sc_law.nd rfl (Or.inl rfl)) pgs_nil)))) (fun _ _ _ _ _ => by exact (pts_one (pt_cmpR op_eq (pv 12) pe_int (nomark _)))) (fun _ _ _ _ _ => by exact (pv 11)))
  (Evl.pss_cut (ps_setLc (i := 5) (own := [("_law_k", 13)]) (g := gName 13) (tt := tYes) (te := (tCall (spDraw K) [] E0 (tCons (tVar 1) (tCons (tC (.int 48)) tNil)))) rfl sc_law.nd rfl rfl (sw_true rfl rfl rfl (by decide +kernel)) (pi_range1 (by rfl) T.z_range (pa_cons (pe_call (ok_l_draw T) (hr.mono (by decide)) (by rfl) T.g_l_draw T.k_l_draw T.b_l_draw .nil pass0 (pa_cons (pv 1) (pa_cons (pe_ix ix_list (pe_lst (pa_cons pe_int (pa_cons pe_int pa_nil))) (pe_call (ok_l_draw T) (hr.mono (by decide)) (by rfl) T.g_l_draw T.k_l_draw T.b_l_draw .nil pass0 (pa_cons (pv 1) (pa_cons pe_int pa_nil))) (by intro _ _; rfl)) pa_nil))) pa_nil)) (blkOk_by (N := N_law) (sc := defScope s_law) (by decide +kernel)) (fun _ _ _ _ _ => pg_name (i := 13) sc_law.nd rfl (Or.inl rfl)) (fun _ _ _ _ _ => pts_nil) (fun _ _ _ _ _ => by exact (pe_call (ok_l_draw T) (hr.mono (by decide)) (by rfl) T.g_l_draw T.k_l_draw T.b_l_draw .nil pass0 (pa_cons (pv 1) (pa_cons pe_int pa_nil)))))
  (Evl.pss_cut (ps_set (i := 6) sc_law.nd rfl (Or.inl rfl) (pe_call (ok_l_made T) (hr.mono (by decide)) (by rfl) T.g_l_made T.k_l_made T.b_l_made .nil pass0 (pa_cons (pv 2) pa_nil)))
  (Evl.pss_cut (ps_for PassesOwn.never rfl (pi_list (pe_lst (pa_cons (pv 4) (pa_cons (pe_op op_cat (pv 4) (pv 5)) (pa_cons (pv 5) (pa_cons (pe_lst pa_nil) (pa_cons (pe_listRg rfl (by rfl) T.z_list (prg_1 (by rfl) T.z_range pe_int)) pa_nil))))))) (pg_name (i := 7) sc_law.nd rfl (Or.inr rfl))
    (Evl.pss_cut (ps_set (i := 8) sc_law.nd rfl (Or.inl rfl) (pe_make T.mk_Pupil (ok_Pupil_init T) (hr.mono (by decide)) (by rfl) T.g_Pupil T.b_Pupil_init .nil pass0 (pa_cons (pv 7) pa_nil)))
  (Evl.pss_cut (ps_set (i := 9) sc_law.nd rfl (Or.inl rfl) (pe_lamcall2F (T := lamT "law" a.Pt) (N := ["_law_question", "_law_k", "_law_some"]) (ps := ["_law_question", "_law_k"]) (fr := ["_law_some"]) (js := [7]) (tb := (tCB (fun xs H Q => (∃ i, xs = [.int i] ∧ Q (.int i) H) ∨ ∃ k, xs = [.bl k] ∧ Q (.int (if k then 1 else 0)) H) (tCons (tOp (rIn K false) (tVar 0) (tVar 2)) tNil))) (k := 0) T.F_l_ladder_run T.k_l_ladder_run T.b_l_ladder_run (by rfl) T.g_l_ladder_run sc_l_ladder_run rfl (.inl rfl) (fun cdv => gives_l_ladder_run T) TB rfl (List.mem_singleton.mpr rfl) (fun p hp _ => by rw [List.mem_singleton.mp hp]; rfl) (hr.mono (by decide)) (NdefX.nscope_by (by decide +kernel)) (by show NdefX.ndefB (defScope s_law) _ _ = true; decide +kernel) rfl rfl (fun _ _ _ _ _ us hl => match us, hl with | [_, _], _ => rfl) (fun A outer s H f c hr2 => by exact (pe_callTy call_int1 (by rfl) T.z_int (by decide +kernel) (pa_cons (pe_cmpR op_in_seq (pv 0) (pv 2) (by with_unfolding_all rfl)) pa_nil))) (pv 2)))
  (Evl.pss_cut (ps_set (i := 10) sc_law.nd rfl (Or.inl rfl) (pe_call (ok_ladder_run T) (hr.mono (by decide)) (by rfl) T.g_ladder_run T.k_ladder_run T.b_ladder_run .nil pass0 (pa_cons (pv 6) (pa_cons (pv 8) pa_nil))))
  (Evl.pss_cut (ps_if (PW.pt (pw_or (pt_cmpR (op_neD hr.units) (pv 10) (pe_callTy call_tuple_of (by rfl) T.z_tuple (by decide +kernel) (pa_cons (pv 9) pa_nil)) (nomark _)) (pw_or1 (pt_not (pt_val (pe_callB call_isi (by rfl) T.z_isinstance (by decide +kernel) (pa_cons (pv 10) (pa_cons (pe_bltn (v := .ty "tuple") (by rfl) T.z_tuple (by decide +kernel) rfl) pa_nil))))))))
    (pss_one (ps_ret pe_bl))
    pss_nil)
  (Evl.pss_cut (ps_for PassesOwn.never rfl (pi_tup (pv 10)) (pg_tup rfl (pgs_cons (pg_name (i := 11) sc_law.nd rfl (Or.inl rfl)) (pgs_cons (pg_name (i := 12) sc_law.nd rfl (Or.inl rfl)) pgs_nil)))
    (pss_one (ps_if (PW.pt (pw_or (pt_not (pt_val (pe_call (ok_l_is_integer T) (hr.mono (by decide)) (by rfl) T.g_l_is_integer T.k_l_is_integer T.b_l_is_integer .nil pass0 (pa_cons (pv 11) pa_nil)))) (pw_or1 (pt_not (pt_val (pe_call (ok_l_is_integer T) (hr.mono (by decide)) (by rfl) T.g_l_is_integer T.k_l_is_integer T.b_l_is_integer .nil pass0 (pa_cons (pv 12) pa_nil)))))))
    (pss_one (ps_ret pe_bl))
    pss_nil)))
  (pss_one (ps_if (pt_cmpR (op_neD hr.units) (pe_fld (pv 8) (by rfl)) (pe_callTy call_tuple_of (by rfl) T.z_tuple (by decide +kernel) (pa_cons (pe_lc (own := [("_law_name", 14)]) (g := gName 14) (tt := (tTest (tOp (rIn K false) (tVar 14) (tVar 7)))) (te := (tVar 14)) rfl sc_law.nd (pi_range1 (by rfl) T.z_range (pa_cons pe_int pa_nil)) (blkOk_by (N := N_law) (sc := defScope s_law) (by decide +kernel)) (fun _ _ _ _ _ => pg_name (i := 14) sc_law.nd rfl (Or.inl rfl)) (fun _ _ _ _ _ => by exact (pts_one (pt_cmpR op_in_seq (pv 14) (pv 7) (by with_unfolding_all rfl)))) (fun _ _ _ _ _ => by exact (pv 14))) pa_nil)) (nomark _))
    (pss_one (ps_ret pe_bl))
    pss_nil))))))))
  (pss_one (ps_ret (pe_cmpR (cmp_own (ok_Ladder_eq T) (hr.mono (by decide)) T.s_Ladder_eq T.i_Ladder_eq T.b_Ladder_eq pass0) (pv 6) (pe_call (ok_l_made T) (hr.mono (by decide)) (by rfl) T.g_l_made T.k_l_made T.b_l_made .nil pass0 (pa_cons (pv 2) pa_nil)) (nomark _))))))))))), ?_⟩
    have hT0 : LamX.Tabs (lamT "law" a.Pt) H := fun p hp => by
      rw [List.mem_singleton.mp hp]
      exact LamX.TabS.nil hP
    refine ⟨fun σ H1 => ∃ p, σ = [some (.ref x), some (.ref p), none, none, none, none, none, none, none, none, none, none, none, none, none] ∧ PoolOk K p 0 H1 ∧ LamX.Tabs (lamT "law" a.Pt) H1, ?_, ?_⟩
    · exact ⟨_, rfl, x, ns, rfl, hx, fun p H1 np f1 p1 => ⟨p, rfl, p1, Tabs.gd f1.gd hT0⟩⟩
    rintro σ H1 ⟨p, rfl, p1, hT1⟩
    refine ⟨fun σ H2 => ∃ y t, σ = [some (.ref x), some (.ref p), some (.ref y), none, none, none, none, none, none, none, none, none, none, none, none] ∧ PoolOk K p 6 H2 ∧ LamX.Tabs (lamT "law" a.Pt) H2 ∧ H2 y = some (.tup (ladV t)) ∧ t.Ok, ?_, ?_⟩
    · exact ⟨_, rfl, p, 0, rfl, p1, by decide, fun H2 y t g2 p2 hy ht => ⟨y, t, rfl, p2, Tabs.gd g2 hT1, hy, ht⟩⟩
    rintro σ H2 ⟨y, t, rfl, p2, hT2, hy2, ht⟩
    -- the wishes
    refine ⟨fun σ H3 => ∃ W, ∃ ws : List Int, σ = [some (.ref x), some (.ref p), some (.ref y), some (.ref W), none, none, none, none, none, none, none, none, none, none, none] ∧ PoolOk K p 12 H3 ∧ LamX.Tabs (lamT "law" a.Pt) H3 ∧ H3 y = some (.tup (ladV t)) ∧ H3 W = some (.lst (ws.map V.int)) ∧ ws.length = 6 ∧ ∀ z ∈ ws, z = 0 ∨ z = 1, ?_, ?_⟩
    · refine ⟨_, rfl, by decide, by decide, fun D nD => ?_⟩
      refine lc_range (lo := 0) (n := (6 : Int).toNat) (fun i H3 => ∃ ws : List Int, Gd H2 H3 ∧ PoolOk K p (6 + i) H3 ∧ H3 D = some (.lst (ws.map V.int)) ∧ ws.length = i ∧ ∀ z ∈ ws, z = 0 ∨ z = 1) ⟨[], (same_upd nD).gd, p2.upd nD, upd_same, rfl, fun z h => nomatch h⟩ (fun i H3 hi h => ?_) (fun H3 h => ?_)
      · obtain ⟨ws, g3, p3, hD, hwl, hw⟩ := h
        have hi : i < 6 := hi
        refine ⟨rfl, tyes ⟨_, rfl, p, 6 + i, 2, rfl, p3, Nat.lt_trans (show 6 + i < 100 by omega) (by decide), by decide, by decide, fun H4 r g4 p4 r0 r1 => ⟨_, g4.1 _ _ (np_ints _) hD, by rw [List.length_map, sizeLine_eq]; omega, ws ++ [r], (g3.trans g4).mut nD, p4.mut (g4.1 _ _ (np_ints _) hD) (np_ints _), by rw [upd_same, List.map_append]; rfl, by rw [List.length_append, hwl]; rfl, fun z hz => ?_⟩⟩⟩
        rcases List.mem_append.mp hz with h | h
        · exact hw z h
        · rw [List.mem_singleton.mp h]
          omega
      · obtain ⟨ws, g3, p3, hD, hwl, hw⟩ := h
        exact ⟨D, ws, rfl, p3, Tabs.gd g3 hT2, g3.1 _ _ (np_tup _) hy2, hD, hwl, hw⟩
    rintro σ H3 ⟨W, ws, rfl, p3, hT3, hy3, hW3, hwl, hw⟩
    -- the questions of a run by wishes
    refine ⟨fun σ H4 => ∃ R, ∃ l : List Int, σ = [some (.ref x), some (.ref p), some (.ref y), some (.ref W), some (.ref R), none, none, none, none, none, none, none, none, none, none] ∧ PoolOk K p 12 H4 ∧ LamX.Tabs (lamT "law" a.Pt) H4 ∧ H4 y = some (.tup (ladV t)) ∧ H4 R = some (.lst (l.map V.int)) ∧ Qn l ∧ l.length ≤ 6, ?_, ?_⟩
    · refine ⟨_, rfl, hT3, fun c' H4 eN hT4 => ?_⟩
      have hW4 := eN _ _ hW3 (fun _ z => nomatch z)
      have hy4 := eN _ _ hy3 (fun _ z => nomatch z)
      obtain ⟨ans, hans⟩ : ∃ ans : Int → Nat → Int, ans = fun _ i => ws.getD i 0 := ⟨_, rfl⟩
      have hA : ∀ q i, ans q i = 0 ∨ ans q i = 1 := fun q i => by
        rw [hans]
        dsimp only
        rw [List.getD_eq_getElem?_getD]
        cases h : ws[i]? with
        | none => exact .inl rfl
        | some z => exact hw z (List.mem_of_getElem? h)
      refine ⟨y, t, ans, rfl, hy4, ht, hA, fun q i H' Q' hi f hQ => ?_, fun H5 D as rows f5 hD hR hrun => ?_⟩
      · have hsz := ht.2.2.2.2.1
        have hi6 : i < ws.length := by omega
        refine ⟨rfl, ?_⟩
        refine ⟨_, rfl, _, rfl, W, _, _, _, rfl, rfl, lst_of (f _ _ hW4), at_tup (j := i) (by rw [List.getElem?_map, List.getElem?_eq_getElem hi6]; rfl), ?_⟩
        rw [hans] at hQ
        dsimp only at hQ
        rw [List.getD_eq_getElem?_getD, List.getElem?_eq_getElem hi6] at hQ
        exact hQ
      · obtain ⟨hrl, hrows⟩ := hrun.rows ht hA
        refine ⟨D, rfl, ⟨_, lst_of hD⟩, fun L nL => ?_⟩
        refine lc_list (K := K) (a := D) (xs := as.map V.ref) (fun i H6 => ∃ l : List Int, Same H5 H6 ∧ H6 L = some (.lst (l.map V.int)) ∧ l.length ≤ i ∧ Qn l) ⟨[], same_upd nL, upd_same, Nat.le_refl _, fun z h => nomatch h⟩ (fun i H6 _ ⟨_, f, _⟩ => lst_of (f _ _ hD)) (fun i v H6 hi h => ?_) (fun H6 h => ?_)
        · obtain ⟨l, f6, hL, hll, hq⟩ := h
          rw [List.getElem?_map] at hi
          obtain ⟨b, hb, rfl⟩ := Option.map_eq_some_iff.mp hi
          have hib := (List.getElem?_eq_some_iff.mp hb).1
          obtain ⟨q, av, hrow, hqb, hav⟩ := hrows i _ (List.getElem?_eq_getElem (by rw [← hR.1]; exact hib))
          have hbb := hR.2 i b _ hb (List.getElem?_eq_getElem (by rw [← hR.1]; exact hib))
          rw [hrow] at hbb
          have hrl2 := hR.1
          refine ⟨b, _, rfl, tup_of (f6 _ _ hbb), rfl, _, _, rfl, _, _, rfl, rfl, rfl, ⟨_, rfl, rfl, _, rfl, ?_⟩⟩
          by_cases ha1 : av = 1
          · rw [decide_eq_true (show V.int av = V.int 1 by rw [ha1])]
            refine ⟨_, rfl, _, hL, by rw [List.length_map, sizeLine_eq]; omega, l ++ [q], fun b u eb => by rw [upd_ne (ne_of_none eb nL)]; exact f6 b u eb, by rw [upd_same, List.map_append]; rfl, by rw [List.length_append]; exact Nat.succ_le_succ hll, fun z hz => ?_⟩
            rcases List.mem_append.mp hz with h | h
            · exact hq z h
            · rw [List.mem_singleton.mp h]
              exact hqb
          · rw [decide_eq_false (show ¬ V.int av = V.int 1 from fun z => ha1 (by injection z))]
            exact ⟨l, f6, hL, by omega, hq⟩
        · obtain ⟨l, f6, hL, hll, hq⟩ := h
          rw [List.length_map, hR.1] at hll
          have f46 := f5.trans f6
          exact ⟨L, l, rfl, (extN_pool eN p3).same f46, Tabs.gd f46.gd hT4, f46 _ _ hy4, hL, hq, by omega⟩
    rintro σ H4 ⟨R, l1, rfl, p4, hT4, hy4, hR4, hq1, hl1⟩
    -- more questions
    refine ⟨fun σ H5 => ∃ M, ∃ l : List Int, σ = [some (.ref x), some (.ref p), some (.ref y), some (.ref W), some (.ref R), some (.ref M), none, none, none, none, none, none, none, none, none] ∧ LamX.Tabs (lamT "law" a.Pt) H5 ∧ H5 y = some (.tup (ladV t)) ∧ H5 R = some (.lst (l1.map V.int)) ∧ H5 M = some (.lst (l.map V.int)) ∧ Qn l ∧ l.length ≤ 60, ?_, ?_⟩
    · refine ⟨_, rfl, by show 2 ≤ sizeLine; decide, fun tq nt => ⟨_, rfl, p, 12, 2, rfl, p4.upd nt, by decide, by decide, by decide, fun H5 r g5 p5 r0 r1 => ?_⟩⟩
      have ft := same_upd nt (o := HO.lst [V.int 5, V.int 60])
      have htq := g5.1 _ _ (np_ints [5, 60]) (upd_same (H := H4) (a := tq) (o := HO.lst [V.int 5, V.int 60]))
      have g45 := ft.gd.trans g5
      obtain ⟨lim, hat, hlim0, hlim1⟩ : ∃ lim : Int, atI [V.int 5, V.int 60] r = some (.int lim) ∧ 0 < lim ∧ lim ≤ 60 := by
        rcases (by omega : r = 0 ∨ r = 1) with rfl | rfl
        · exact ⟨5, atI0, by decide, by decide⟩
        · exact ⟨60, atI1, by decide, by decide⟩
      refine ⟨tq, _, r, _, rfl, rfl, lst_of htq, hat, p, 13, lim, rfl, p5, by decide, hlim0, Int.lt_of_le_of_lt hlim1 (by decide), fun H6 n g6 p6 n0 n1 => ?_⟩
      have g46 := g45.trans g6
      refine ⟨_, rfl, by omega, by omega, fun D nD => ?_⟩
      refine lc_range (lo := 0) (n := n.toNat) (fun i H7 => ∃ l : List Int, Gd H6 H7 ∧ PoolOk K p (14 + i) H7 ∧ H7 D = some (.lst (l.map V.int)) ∧ l.length = i ∧ Qn l) ⟨[], (same_upd nD).gd, p6.upd nD, upd_same, rfl, fun z h => nomatch h⟩ (fun i H7 hi h => ?_) (fun H7 h => ?_)
      · obtain ⟨l, g7, p7, hD, hll, hq⟩ := h
        have hi' : i < 60 := by omega
        refine ⟨rfl, tyes ⟨_, rfl, p, 14 + i, 48, rfl, p7, Nat.lt_trans (show 14 + i < 100 by omega) (by decide), by decide, by decide, fun H8 r g8 p8 r0 r1 => ⟨_, g8.1 _ _ (np_ints _) hD, by rw [List.length_map, sizeLine_eq]; omega, l ++ [r], (g7.trans g8).mut nD, p8.mut (g8.1 _ _ (np_ints _) hD) (np_ints _), by rw [upd_same, List.map_append]; rfl, by rw [List.length_append, hll]; rfl, fun z hz => ?_⟩⟩⟩
        rcases List.mem_append.mp hz with h | h
        · exact hq z h
        · rw [List.mem_singleton.mp h]
          exact ⟨r0, r1⟩
      · obtain ⟨l, g7, p7, hD, hll, hq⟩ := h
        have g47 := g46.trans g7
        exact ⟨D, l, rfl, Tabs.gd g47 hT4, g47.1 _ _ (np_tup _) hy4, g47.1 _ _ (np_ints _) hR4, hD, hq, by omega⟩
    rintro σ H5 ⟨M, l2, rfl, hT5, hy5, hR5, hM5, hq2, hl2⟩
    refine ⟨fun σ H6 => ∃ z, σ = [some (.ref x), some (.ref p), some (.ref y), some (.ref W), some (.ref R), some (.ref M), some (.ref z), none, none, none, none, none, none, none, none] ∧ LamX.Tabs (lamT "law" a.Pt) H6 ∧ H6 y = some (.tup (ladV t)) ∧ H6 R = some (.lst (l1.map V.int)) ∧ H6 M = some (.lst (l2.map V.int)) ∧ LadAt a.c_Ladder H6 z t, ?_, ?_⟩
    · exact ⟨_, rfl, y, t, rfl, hy5, ht, fun H6 z nz f6 hz => ⟨z, rfl, Tabs.gd f6.gd hT5, f6 _ _ hy5, f6 _ _ hR5, f6 _ _ hM5, hz⟩⟩
    rintro σ H6 ⟨z, rfl, hT6, hy6, hR6, hM6, hz6⟩
    refine ⟨fun σ H7 => ∃ v7 v8 v9 v10 v11 v12 v13 v14, σ = [some (.ref x), some (.ref p), some (.ref y), some (.ref W), some (.ref R), some (.ref M), some (.ref z), v7, v8, v9, v10, v11, v12, v13, v14] ∧ H7 y = some (.tup (ladV t)) ∧ LadAt a.c_Ladder H7 z t, ?_, ?_⟩
    · refine ⟨_, rfl, _, rfl, _, rfl, R, M, _, _, rfl, rfl, hR6, hM6, by rw [List.length_map, List.length_map, sizeLine_eq]; omega, fun c nc => ⟨_, rfl, by show 0 ≤ sizeLine; decide, fun e ne => ⟨48, rfl, RgOk.of_le (by decide) (by decide) (by decide) (by decide), fun g ng => ⟨by show 5 ≤ sizeLine; decide, fun L nL => ?_⟩⟩⟩⟩
      have f1 := same_upd nc (o := .lst (l1.map V.int ++ l2.map V.int))
      have f2 := same_upd ne (o := .lst [])
      have f3 := same_upd ng (o := .lst (rgV 0 48))
      have f4 := same_upd nL (o := .lst [V.ref R, .ref c, .ref M, .ref e, .ref g])
      have f6 := ((f1.trans f2).trans f3).trans f4
      have hT := Tabs.gd f6.gd hT6
      have hy := f6 _ _ hy6
      have hz := hz6.same f6
      have hbs : ∀ b ∈ [R, c, M, e, g], ∃ l : List Int, upd (upd (upd (upd H6 c (.lst (l1.map V.int ++ l2.map V.int))) e (.lst [])) g (.lst (rgV 0 48))) L (.lst [V.ref R, .ref c, .ref M, .ref e, .ref g]) b = some (.lst (l.map V.int)) ∧ Qn l ∧ l.length ≤ 100 := fun b hb => by
        simp only [List.mem_cons, List.not_mem_nil, or_false] at hb
        rcases hb with rfl | rfl | rfl | rfl | rfl
        · exact ⟨l1, f6 _ _ hR6, hq1, by omega⟩
        · refine ⟨l1 ++ l2, ?_, fun q h => (List.mem_append.mp h).elim (hq1 q) (hq2 q), by rw [List.length_append]; omega⟩
          rw [((f2.trans f3).trans f4) _ _ upd_same, List.map_append]
        · exact ⟨l2, f6 _ _ hM6, hq2, by omega⟩
        · exact ⟨[], (f3.trans f4) _ _ upd_same, fun q h => (nomatch h), by decide⟩
        · refine ⟨rgI 48, ?_, fun q h => by have := mem_rgI.mp h; omega, by rw [rgI_length]; decide⟩
          rw [f4 _ _ upd_same, show rgV 0 48 = (rgI 48).map V.int from rg_ints 48]
      have hLL : upd (upd (upd (upd H6 c (.lst (l1.map V.int ++ l2.map V.int))) e (.lst [])) g (.lst (rgV 0 48))) L (.lst [V.ref R, .ref c, .ref M, .ref e, .ref g]) L = some (.lst ([R, c, M, e, g].map V.ref)) := upd_same
      generalize upd (upd (upd (upd H6 c (.lst (l1.map V.int ++ l2.map V.int))) e (.lst [])) g (.lst (rgV 0 48))) L (.lst [V.ref R, .ref c, .ref M, .ref e, .ref g]) = Hx at hT hy hz hbs hLL ⊢
      refine ⟨L, rfl, ⟨_, lst_of hLL⟩, for_list (K := K) (a := L) (xs := [R, c, M, e, g].map V.ref) (fun i σ H8 => ∃ v7 v8 v9 v10 v11 v12 v13 v14, σ = [some (.ref x), some (.ref p), some (.ref y), some (.ref W), some (.ref R), some (.ref M), some (.ref z), v7, v8, v9, v10, v11, v12, v13, v14] ∧ LamX.ExtN Hx H8 ∧ LamX.Tabs (lamT "law" a.Pt) H8) ⟨_, _, _, _, _, _, _, _, rfl, LamX.ExtN.refl _, hT⟩ (fun i σ H8 _ ⟨_, _, _, _, _, _, _, _, _, f, _⟩ => lst_of (f _ _ hLL (fun _ z => nomatch z))) ?_ ?_⟩
      · rintro i v σ H8 hi ⟨v7, v8, v9, v10, v11, v12, v13, v14, rfl, f8, hT8⟩
        rw [List.getElem?_map] at hi
        obtain ⟨b, hb, rfl⟩ := Option.map_eq_some_iff.mp hi
        obtain ⟨l, hbl, hql, hll⟩ := hbs b (List.mem_of_getElem? hb)
        have hb8 := f8 _ _ hbl (fun _ z => nomatch z)
        -- the pupil
        refine ⟨fun σ H9 => ∃ u, σ = [some (.ref x), some (.ref p), some (.ref y), some (.ref W), some (.ref R), some (.ref M), some (.ref z), some (.ref b), some (.ref u), v9, v10, v11, v12, v13, v14] ∧ Same H8 H9 ∧ PupAt a.c_Pupil H9 u l, ?_, ?_⟩
        · exact ⟨_, rfl, pup_make (l := l) (.inl (lst_of hb8)) (by omega) hql fun u H9 nu f9 pu => ⟨u, rfl, f9, pu⟩⟩
        rintro σ H9 ⟨u, rfl, f9, pu9⟩
        have hb9 := f9 _ _ hb8
        have hy9 := f9 _ _ (f8 _ _ hy (fun _ z => nomatch z))
        have hz9 : LadAt a.c_Ladder H9 z t := by
          obtain ⟨dz, h1⟩ := hz
          exact ⟨dz, f9 _ _ (f8 _ _ h1 (fun _ z => nomatch z))⟩
        have hT9 := Tabs.gd f9.gd hT8
        -- the law's run
        obtain ⟨ans, hans⟩ : ∃ ans : Int → Nat → Int, ans = fun q _ => if q ∈ l then 1 else 0 := ⟨_, rfl⟩
        have hA : ∀ q i, ans q i = 0 ∨ ans q i = 1 := fun q i => by rw [hans]; dsimp only; split <;> omega
        refine ⟨fun σ H10 => ∃ D, ∃ as, ∃ rows : List (List Int), σ = [some (.ref x), some (.ref p), some (.ref y), some (.ref W), some (.ref R), some (.ref M), some (.ref z), some (.ref b), some (.ref u), some (.ref D), v10, v11, v12, v13, v14] ∧ LamX.ExtN H9 H10 ∧ LamX.Tabs (lamT "law" a.Pt) H10 ∧ H10 D = some (.lst (as.map V.ref)) ∧ RowsAt H10 as rows ∧ LadRun t ans rows, ?_, ?_⟩
        · refine ⟨_, rfl, hT9, fun c' H10 eN hT10 => ?_⟩
          have hb10 := eN _ _ hb9 (fun _ z => nomatch z)
          refine ⟨y, t, ans, rfl, eN _ _ hy9 (fun _ z => nomatch z), ht, hA, fun q i H' Q' hi f hQ => ?_, fun H11 D as rows f11 hD hR hrun => ⟨D, as, rows, rfl, eN.trans (LamX.ExtN.of f11), Tabs.gd f11.gd hT10, hD, hR, hrun⟩⟩
          refine ⟨rfl, _, rfl, _, rfl, in_k (neg := false) (.inl (lst_of (f _ _ hb10))) (.inr ⟨_, rfl, ?_⟩)⟩
          rw [hans] at hQ
          dsimp only at hQ
          by_cases hin : q ∈ l
          · rw [if_pos hin] at hQ
            rw [decide_eq_true hin]
            exact hQ
          · rw [if_neg hin] at hQ
            rw [decide_eq_false hin]
            exact hQ
        rintro σ H10 ⟨D, as, rows, rfl, e10, hT10, hD, hR, hrun⟩
        obtain ⟨hrl, hrows⟩ := hrun.rows ht hA
        have tupN : ∀ {b : Addr} {xs : List V}, H9 b = some (.tup xs) → H10 b = some (.tup xs) := fun h => e10 _ _ h (fun _ z => nomatch z)
        have pu10 : PupAt a.c_Pupil H10 u l := by
          obtain ⟨du, tu, h1, h2⟩ := pu9
          exact ⟨du, tu, e10 _ _ h1 (fun _ z => nomatch z), tupN h2⟩
        have hz10 : LadAt a.c_Ladder H10 z t := by
          obtain ⟨dz, h1⟩ := hz9
          exact ⟨dz, e10 _ _ h1 (fun _ z => nomatch z)⟩
        have hb10 := e10 _ _ hb9 (fun _ z => nomatch z)
        have f10 : LamX.ExtN Hx H10 := (f8.trans (LamX.ExtN.of f9)).trans e10
        -- the program's run
        refine ⟨fun σ H11 => ∃ r as2, σ = [some (.ref x), some (.ref p), some (.ref y), some (.ref W), some (.ref R), some (.ref M), some (.ref z), some (.ref b), some (.ref u), some (.ref D), some (.ref r), v11, v12, v13, v14] ∧ Same H10 H11 ∧ H11 r = some (.tup (as2.map V.ref)) ∧ RowsAt H11 as2 rows, ?_, ?_⟩
        · refine ⟨_, rfl, _, rfl, z, u, t, l, rfl, ht, hz10, pu10, fun H11 r as2 rows2 f11 hr hR2 hrun2 => ⟨r, as2, rfl, f11, hr, ?_⟩⟩
          rw [ans_norm hql, ← hans] at hrun2
          rw [hrun.uniq hrun2]
          exact hR2
        rintro σ H11 ⟨r, as2, rfl, f11, hr, hR2⟩
        have hD11 := f11 _ _ hD
        -- the same
        refine ⟨fun σ H12 => σ = [some (.ref x), some (.ref p), some (.ref y), some (.ref W), some (.ref R), some (.ref M), some (.ref z), some (.ref b), some (.ref u), some (.ref D), some (.ref r), v11, v12, v13, v14] ∧ Same H11 H12, ?_, ?_⟩
        · refine ⟨_, rfl, _, rfl, D, _, rfl, .inl ⟨lst_of hD11, fun tt ntt => ?_⟩⟩
          have ft := same_upd ntt (o := .tup (as.map V.ref))
          refine neD_rows (ft _ _ hr) upd_same (hR2.same ft) ((hR.same f11).same ft) ⟨_, rfl, ?_⟩
          rw [decide_eq_true rfl]
          exact iteF ⟨_, rfl, _, _, _, _, true, rfl, .ty _, .base (.tup (ft _ _ hr)), kit_ty (by decide +kernel), _, rfl, iteF ⟨rfl, ft⟩⟩
        rintro σ H12 ⟨rfl, f12⟩
        have hr12 := f12 _ _ hr
        have hR12 := hR2.same f12
        -- whole numbers
        refine ⟨fun σ H13 => ∃ v11 v12, σ = [some (.ref x), some (.ref p), some (.ref y), some (.ref W), some (.ref R), some (.ref M), some (.ref z), some (.ref b), some (.ref u), some (.ref D), some (.ref r), v11, v12, v13, v14] ∧ H13 = H12, ?_, ?_⟩
        · refine ⟨_, rfl, r, rfl, ⟨_, tup_of hr12⟩, for_tup (K := K) (a := r) (xs := as2.map V.ref) (fun i σ H13 => ∃ v11 v12, σ = [some (.ref x), some (.ref p), some (.ref y), some (.ref W), some (.ref R), some (.ref M), some (.ref z), some (.ref b), some (.ref u), some (.ref D), some (.ref r), v11, v12, v13, v14] ∧ H13 = H12) ⟨_, _, rfl, rfl⟩ (fun i σ H13 _ ⟨_, _, _, e⟩ => by rw [e]; exact tup_of hr12) ?_ (fun σ H13 h => h)⟩
          rintro i v σ H13 hi ⟨v11, v12, rfl, rfl⟩
          rw [List.getElem?_map] at hi
          obtain ⟨bb, hbb, rfl⟩ := Option.map_eq_some_iff.mp hi
          have hib := (List.getElem?_eq_some_iff.mp hbb).1
          obtain ⟨q, av, hrow, _, _⟩ := hrows i _ (List.getElem?_eq_getElem (by rw [← hR12.1]; exact hib))
          have hbr := hR12.2 i bb _ hbb (List.getElem?_eq_getElem (by rw [← hR12.1]; exact hib))
          rw [hrow] at hbr
          exact ⟨bb, _, rfl, tup_of hbr, rfl, _, _, rfl, _, _, rfl, rfl, _, rfl, q, rfl, _, rfl, iteF ⟨_, rfl, av, rfl, _, rfl, iteF ⟨_, _, rfl, rfl⟩⟩⟩
        rintro σ H13 ⟨v11', v12', rfl, rfl⟩
        obtain ⟨du, tu, hu1, hu2⟩ := (pu10.same f11).same f12
        have hb13 := f12 _ _ (f11 _ _ hb10)
        -- the pupil is as it was
        refine ⟨_, rfl, u, _, du, _, _, rfl, hu1, T.cl_Pupil, T.nA_Pupil_rights, rfl, _, rfl, by decide, by decide, fun C nC => ?_⟩
        refine lc_range (lo := 0) (n := (48 : Int).toNat) (fun i H14 => Same H13 H14 ∧ H14 C = some (.lst (((rgI i).filter fun q => decide (q ∈ l)).map V.int)) ∧ i ≤ 48) ⟨same_upd nC, upd_same, by decide⟩ (fun i H14 hi h => ?_) (fun H14 h => ?_)
        · obtain ⟨f14, hC, _⟩ := h
          have hi : i < 48 := hi
          have ers : (rgI (i + 1)).filter (fun q => decide (q ∈ l)) = (rgI i).filter (fun q => decide (q ∈ l)) ++ [(i : Int)].filter fun q => decide (q ∈ l) := by
            rw [← List.filter_append]
            unfold rgI
            rw [List.range_succ, List.map_append]
            rfl
          refine ⟨rfl, ⟨_, rfl, _, rfl, in_k (neg := false) (.inl (lst_of (f14 _ _ hb13))) ⟨_, rfl, ?_⟩⟩⟩
          by_cases hin : (0 : Int) + (i : Int) ∈ l
          · rw [decide_eq_true hin]
            refine ⟨_, rfl, _, hC, ?_, fun b u eb => by rw [upd_ne (ne_of_none eb nC)]; exact f14 b u eb, ?_, by omega⟩
            · have h1 := List.length_filter_le (fun q => decide (q ∈ l)) (rgI i)
              rw [rgI_length] at h1
              rw [List.length_map, sizeLine_eq]
              omega
            · rw [upd_same, ers]
              rw [Int.zero_add] at hin ⊢
              rw [List.filter_cons_of_pos (by simpa using hin), List.map_append]
              rfl
          · rw [decide_eq_false hin]
            refine ⟨f14, ?_, by omega⟩
            rw [Int.zero_add] at hin
            rw [hC, ers, List.filter_cons_of_neg (by simpa using hin), List.filter_nil, List.append_nil]
        · obtain ⟨f14, hC, _⟩ := h
          have hC : H14 C = some (.lst (((rgI 48).filter fun q => decide (q ∈ l)).map V.int)) := hC
          refine ⟨C, _, rfl, .inl ⟨lst_of hC, fun tt ntt => ?_⟩⟩
          have ft := same_upd ntt (o := .tup (((rgI 48).filter fun q => decide (q ∈ l)).map V.int))
          refine neD_tup (ns := norm l) (ms := (rgI 48).filter fun q => decide (q ∈ l)) (tup_of (ft _ _ (f14 _ _ hu2))) (tup_of upd_same) ⟨_, rfl, ?_⟩
          rw [ne_false (rg_filterL (n := 48) (p := fun q => decide (q ∈ l)) (l := l) (by decide) (fun q => ⟨fun h => ⟨(hql q h).1, (hql q h).2, decide_eq_true h⟩, fun h => of_decide_eq_true h.2.2⟩)).symm]
          exact iteF ⟨_, _, _, _, _, _, _, _, rfl, f10.trans (LamX.ExtN.of ((f11.trans f12).trans (f14.trans ft))), Tabs.gd ((f11.trans f12).trans (f14.trans ft)).gd hT10⟩
      · rintro σ H8 ⟨v7, v8, v9, v10, v11, v12, v13, v14, rfl, f8, hT8⟩
        obtain ⟨dz, h1⟩ := hz
        exact ⟨_, _, _, _, _, _, _, _, rfl, f8 _ _ hy (fun _ z => nomatch z), dz, f8 _ _ h1 (fun _ z => nomatch z)⟩
    rintro σ H7 ⟨v7, v8, v9, v10, v11, v12, v13, v14, rfl, hy7, hz7⟩
    refine ⟨_, rfl, _, rfl, y, t, rfl, hy7, ht, fun H8 w nw f8 hw => ?_⟩
    obtain ⟨dz, hz8⟩ := hz7.same f8
    obtain ⟨dw, hw8⟩ := id hw
    refine ⟨z, w, dz, dw, _, _, rfl, rfl, hz8, hw8, z, w, t, t, rfl, ⟨dz, hz8⟩, hw, ?_⟩
    rw [decide_eq_true ⟨rfl, rfl, rfl, rfl, rfl, rfl⟩]
    exact k _
end
end K11

namespace K11
open PySem PySem.Spec PyProof.Rows L2 Gg TL
section
variable {P : Program} {w : World} {K : PySem.W.Frag} {mg : Str → Option Value} {base : Heap} {a : Ad}
end
theorem all_mk {l : PySem.W.OpenLaw} {w : World} {K : PySem.W.Frag} {h : Heap} {mg : Str → Option Value} {fa c_Pupil c_Ladder f_is_question f_Pupil_init f_Pupil_contains f_Ladder_init f_Ladder_eq f_first_state f_has_ended f_question_of f_state_behind f_ladder_run f_l_pool f_l_draw f_l_is_integer f_l_ladder f_l_made f_l_ladder_run f_law Ct Pt : Addr} (X : K.In h) (G : h.Ns mainGlobals mg) (hfa : mg "law" = some (.ref fa))
    {t_QUESTIONS t_QUESTIONS_OF_A_LEVEL : Tok}
    {od_is_question an_is_question od_Pupil_init an_Pupil_init od_Pupil_contains an_Pupil_contains od_Ladder_init an_Ladder_init od_Ladder_eq an_Ladder_eq od_first_state an_first_state od_has_ended an_has_ended od_question_of an_question_of od_state_behind an_state_behind od_ladder_run an_ladder_run od_l_pool an_l_pool od_l_draw an_l_draw od_l_is_integer an_l_is_integer od_l_ladder an_l_ladder od_l_made an_l_made od_l_ladder_run an_l_ladder_run od_law an_law : Option Addr}
    {sl_is_question sl_Pupil_init sl_Pupil_contains sl_Ladder_init sl_Ladder_eq sl_first_state sl_has_ended sl_question_of sl_state_behind sl_ladder_run sl_l_pool sl_l_draw sl_l_is_integer sl_l_ladder sl_l_made sl_l_ladder_run sl_law : Array (Option Value)}
    {kD_Ladder_init : Addr}
    {oc_is_question kV_is_question dc_is_question pm_is_question cd_is_question ct_is_question oc_Pupil_init kV_Pupil_init dc_Pupil_init pm_Pupil_init cd_Pupil_init ct_Pupil_init oc_Pupil_contains kV_Pupil_contains dc_Pupil_contains pm_Pupil_contains cd_Pupil_contains ct_Pupil_contains oc_Ladder_init dc_Ladder_init pm_Ladder_init cd_Ladder_init ct_Ladder_init oc_Ladder_eq kV_Ladder_eq dc_Ladder_eq pm_Ladder_eq cd_Ladder_eq ct_Ladder_eq oc_first_state kV_first_state dc_first_state pm_first_state cd_first_state ct_first_state oc_has_ended kV_has_ended dc_has_ended pm_has_ended cd_has_ended ct_has_ended oc_question_of kV_question_of dc_question_of pm_question_of cd_question_of ct_question_of oc_state_behind kV_state_behind dc_state_behind pm_state_behind cd_state_behind ct_state_behind oc_ladder_run kV_ladder_run dc_ladder_run pm_ladder_run cd_ladder_run ct_ladder_run oc_l_pool kV_l_pool dc_l_pool pm_l_pool cd_l_pool ct_l_pool oc_l_draw kV_l_draw dc_l_draw pm_l_draw cd_l_draw ct_l_draw oc_l_is_integer kV_l_is_integer dc_l_is_integer pm_l_is_integer cd_l_is_integer ct_l_is_integer oc_l_ladder kV_l_ladder dc_l_ladder pm_l_ladder cd_l_ladder ct_l_ladder oc_l_made kV_l_made dc_l_made pm_l_made cd_l_made ct_l_made oc_l_ladder_run kV_l_ladder_run dc_l_ladder_run pm_l_ladder_run cd_l_ladder_run ct_l_ladder_run oc_law kV_law dc_law pm_law cd_law ct_law : Value}
    {eC : Value} {dC : Option Addr} {vC : Array Value} {slC : Array (Option Value)}
    (own : LamX.OwnTab K fa h)
    (h_g_Pupil : PySem.W.nsIn K mainGlobals "Pupil" = some (some (.ref c_Pupil)))
    (h_pg_Pupil : PySem.W.plainGet K c_Pupil Str.empty = true)
    (h_hd_Pupil : PySem.W.hasDictIn K c_Pupil = true)
    (h_po_Pupil : PySem.W.plainOver K c_Pupil = true)
    (h_sa_Pupil : PySem.W.findIn K (.ref c_Pupil) "__setattr__" = some (some (.builtin "object.__setattr__")))
    (h_mkk_Pupil : PySem.W.makesIn K c_Pupil = true)
    (h_kc_Pupil : PySem.W.keepIn K (.ref c_Pupil) = true)
    (h_nA_Pupil_rights : PySem.W.findIn K (.ref c_Pupil) "rights" = some none)
    (h_g_Ladder : PySem.W.nsIn K mainGlobals "Ladder" = some (some (.ref c_Ladder)))
    (h_pg_Ladder : PySem.W.plainGet K c_Ladder Str.empty = true)
    (h_hd_Ladder : PySem.W.hasDictIn K c_Ladder = true)
    (h_po_Ladder : PySem.W.plainOver K c_Ladder = true)
    (h_sa_Ladder : PySem.W.findIn K (.ref c_Ladder) "__setattr__" = some (some (.builtin "object.__setattr__")))
    (h_mkk_Ladder : PySem.W.makesIn K c_Ladder = true)
    (h_kc_Ladder : PySem.W.keepIn K (.ref c_Ladder) = true)
    (h_nA_Ladder_levels : PySem.W.findIn K (.ref c_Ladder) "levels" = some none)
    (h_nA_Ladder_begin : PySem.W.findIn K (.ref c_Ladder) "begin" = some none)
    (h_nA_Ladder_up : PySem.W.findIn K (.ref c_Ladder) "up" = some none)
    (h_nA_Ladder_down : PySem.W.findIn K (.ref c_Ladder) "down" = some none)
    (h_nA_Ladder_count : PySem.W.findIn K (.ref c_Ladder) "count" = some none)
    (h_nA_Ladder_most_wrongs : PySem.W.findIn K (.ref c_Ladder) "most_wrongs" = some none)
    (h_ic1_Ladder : PySem.W.findIn K (.ref c_Ladder) "__class__" = some (some (.builtin "object.__class__")))
    (h_ic2_Ladder : PySem.W.specialIn K (.builtin "object.__class__") "__get__" = some (some (.builtin "getset_descriptor.__get__")))
    (h_ic3_Ladder : PySem.W.takesIn K (.builtin "object.__class__") = some true)
    (h_ic4_Ladder : PySem.W.mroIn K c_Ladder (.type "object") = some true)
    (h_a_is_question : PySem.W.nsIn K mainGlobals "is_question" = some (some (.ref f_is_question)))
    (h_l_is_question : K.lookup f_is_question = some ⟨oc_is_question, od_is_question, .func (PySem.W.fnOf "is_question" "is_question" (defArgs s_is_question) (defBody s_is_question) (defScope s_is_question) .none kV_is_question dc_is_question pm_is_question an_is_question cd_is_question ct_is_question), sl_is_question⟩)
    (h_c_is_question : PySem.W.codeIn K cd_is_question "is_question" = true)
    (h_k_is_question : PySem.W.keepIn K (.ref f_is_question) = true)
    (h_a_Pupil_init : PySem.W.findIn K (.ref c_Pupil) "__init__" = some (some (.ref f_Pupil_init)))
    (h_i_Pupil_init : PySem.W.isFn K (.ref f_Pupil_init) = true)
    (h_l_Pupil_init : K.lookup f_Pupil_init = some ⟨oc_Pupil_init, od_Pupil_init, .func (PySem.W.fnOf "__init__" "Pupil.__init__" (defArgs s_Pupil_init) (defBody s_Pupil_init) (defScope s_Pupil_init) .none kV_Pupil_init dc_Pupil_init pm_Pupil_init an_Pupil_init cd_Pupil_init ct_Pupil_init), sl_Pupil_init⟩)
    (h_c_Pupil_init : PySem.W.codeIn K cd_Pupil_init "Pupil.__init__" = true)
    (h_k_Pupil_init : PySem.W.keepIn K (.ref f_Pupil_init) = true)
    (h_a_Pupil_contains : PySem.W.findIn K (.ref c_Pupil) "__contains__" = some (some (.ref f_Pupil_contains)))
    (h_i_Pupil_contains : PySem.W.isFn K (.ref f_Pupil_contains) = true)
    (h_l_Pupil_contains : K.lookup f_Pupil_contains = some ⟨oc_Pupil_contains, od_Pupil_contains, .func (PySem.W.fnOf "__contains__" "Pupil.__contains__" (defArgs s_Pupil_contains) (defBody s_Pupil_contains) (defScope s_Pupil_contains) .none kV_Pupil_contains dc_Pupil_contains pm_Pupil_contains an_Pupil_contains cd_Pupil_contains ct_Pupil_contains), sl_Pupil_contains⟩)
    (h_c_Pupil_contains : PySem.W.codeIn K cd_Pupil_contains "Pupil.__contains__" = true)
    (h_k_Pupil_contains : PySem.W.keepIn K (.ref f_Pupil_contains) = true)
    (h_a_Ladder_init : PySem.W.findIn K (.ref c_Ladder) "__init__" = some (some (.ref f_Ladder_init)))
    (h_i_Ladder_init : PySem.W.isFn K (.ref f_Ladder_init) = true)
    (h_l_Ladder_init : K.lookup f_Ladder_init = some ⟨oc_Ladder_init, od_Ladder_init, .func (PySem.W.fnOf "__init__" "Ladder.__init__" (defArgs s_Ladder_init) (defBody s_Ladder_init) (defScope s_Ladder_init) .none (.ref kD_Ladder_init) dc_Ladder_init pm_Ladder_init an_Ladder_init cd_Ladder_init ct_Ladder_init), sl_Ladder_init⟩)
    (h_c_Ladder_init : PySem.W.codeIn K cd_Ladder_init "Ladder.__init__" = true)
    (h_k_Ladder_init : PySem.W.keepIn K (.ref f_Ladder_init) = true)
    (h_a_Ladder_eq : PySem.W.findIn K (.ref c_Ladder) "__eq__" = some (some (.ref f_Ladder_eq)))
    (h_i_Ladder_eq : PySem.W.isFn K (.ref f_Ladder_eq) = true)
    (h_l_Ladder_eq : K.lookup f_Ladder_eq = some ⟨oc_Ladder_eq, od_Ladder_eq, .func (PySem.W.fnOf "__eq__" "Ladder.__eq__" (defArgs s_Ladder_eq) (defBody s_Ladder_eq) (defScope s_Ladder_eq) .none kV_Ladder_eq dc_Ladder_eq pm_Ladder_eq an_Ladder_eq cd_Ladder_eq ct_Ladder_eq), sl_Ladder_eq⟩)
    (h_c_Ladder_eq : PySem.W.codeIn K cd_Ladder_eq "Ladder.__eq__" = true)
    (h_k_Ladder_eq : PySem.W.keepIn K (.ref f_Ladder_eq) = true)
    (h_a_first_state : PySem.W.nsIn K mainGlobals "_first_state" = some (some (.ref f_first_state)))
    (h_l_first_state : K.lookup f_first_state = some ⟨oc_first_state, od_first_state, .func (PySem.W.fnOf "_first_state" "_first_state" (defArgs s_first_state) (defBody s_first_state) (defScope s_first_state) .none kV_first_state dc_first_state pm_first_state an_first_state cd_first_state ct_first_state), sl_first_state⟩)
    (h_c_first_state : PySem.W.codeIn K cd_first_state "_first_state" = true)
    (h_k_first_state : PySem.W.keepIn K (.ref f_first_state) = true)
    (h_a_has_ended : PySem.W.nsIn K mainGlobals "_has_ended" = some (some (.ref f_has_ended)))
    (h_l_has_ended : K.lookup f_has_ended = some ⟨oc_has_ended, od_has_ended, .func (PySem.W.fnOf "_has_ended" "_has_ended" (defArgs s_has_ended) (defBody s_has_ended) (defScope s_has_ended) .none kV_has_ended dc_has_ended pm_has_ended an_has_ended cd_has_ended ct_has_ended), sl_has_ended⟩)
    (h_c_has_ended : PySem.W.codeIn K cd_has_ended "_has_ended" = true)
    (h_k_has_ended : PySem.W.keepIn K (.ref f_has_ended) = true)
    (h_a_question_of : PySem.W.nsIn K mainGlobals "_question_of" = some (some (.ref f_question_of)))
    (h_l_question_of : K.lookup f_question_of = some ⟨oc_question_of, od_question_of, .func (PySem.W.fnOf "_question_of" "_question_of" (defArgs s_question_of) (defBody s_question_of) (defScope s_question_of) .none kV_question_of dc_question_of pm_question_of an_question_of cd_question_of ct_question_of), sl_question_of⟩)
    (h_c_question_of : PySem.W.codeIn K cd_question_of "_question_of" = true)
    (h_k_question_of : PySem.W.keepIn K (.ref f_question_of) = true)
    (h_a_state_behind : PySem.W.nsIn K mainGlobals "_state_behind" = some (some (.ref f_state_behind)))
    (h_l_state_behind : K.lookup f_state_behind = some ⟨oc_state_behind, od_state_behind, .func (PySem.W.fnOf "_state_behind" "_state_behind" (defArgs s_state_behind) (defBody s_state_behind) (defScope s_state_behind) .none kV_state_behind dc_state_behind pm_state_behind an_state_behind cd_state_behind ct_state_behind), sl_state_behind⟩)
    (h_c_state_behind : PySem.W.codeIn K cd_state_behind "_state_behind" = true)
    (h_k_state_behind : PySem.W.keepIn K (.ref f_state_behind) = true)
    (h_a_ladder_run : PySem.W.nsIn K mainGlobals "ladder_run" = some (some (.ref f_ladder_run)))
    (h_l_ladder_run : K.lookup f_ladder_run = some ⟨oc_ladder_run, od_ladder_run, .func (PySem.W.fnOf "ladder_run" "ladder_run" (defArgs s_ladder_run) (defBody s_ladder_run) (defScope s_ladder_run) .none kV_ladder_run dc_ladder_run pm_ladder_run an_ladder_run cd_ladder_run ct_ladder_run), sl_ladder_run⟩)
    (h_c_ladder_run : PySem.W.codeIn K cd_ladder_run "ladder_run" = true)
    (h_k_ladder_run : PySem.W.keepIn K (.ref f_ladder_run) = true)
    (h_a_l_pool : PySem.W.nsIn K mainGlobals "_law_pool" = some (some (.ref f_l_pool)))
    (h_l_l_pool : K.lookup f_l_pool = some ⟨oc_l_pool, od_l_pool, .func (PySem.W.fnOf "_law_pool" "_law_pool" (defArgs s_l_pool) (defBody s_l_pool) (defScope s_l_pool) .none kV_l_pool dc_l_pool pm_l_pool an_l_pool cd_l_pool ct_l_pool), sl_l_pool⟩)
    (h_c_l_pool : PySem.W.codeIn K cd_l_pool "_law_pool" = true)
    (h_k_l_pool : PySem.W.keepIn K (.ref f_l_pool) = true)
    (h_a_l_draw : PySem.W.nsIn K mainGlobals "_law_draw" = some (some (.ref f_l_draw)))
    (h_l_l_draw : K.lookup f_l_draw = some ⟨oc_l_draw, od_l_draw, .func (PySem.W.fnOf "_law_draw" "_law_draw" (defArgs s_l_draw) (defBody s_l_draw) (defScope s_l_draw) .none kV_l_draw dc_l_draw pm_l_draw an_l_draw cd_l_draw ct_l_draw), sl_l_draw⟩)
    (h_c_l_draw : PySem.W.codeIn K cd_l_draw "_law_draw" = true)
    (h_k_l_draw : PySem.W.keepIn K (.ref f_l_draw) = true)
    (h_a_l_is_integer : PySem.W.nsIn K mainGlobals "_law_is_integer" = some (some (.ref f_l_is_integer)))
    (h_l_l_is_integer : K.lookup f_l_is_integer = some ⟨oc_l_is_integer, od_l_is_integer, .func (PySem.W.fnOf "_law_is_integer" "_law_is_integer" (defArgs s_l_is_integer) (defBody s_l_is_integer) (defScope s_l_is_integer) .none kV_l_is_integer dc_l_is_integer pm_l_is_integer an_l_is_integer cd_l_is_integer ct_l_is_integer), sl_l_is_integer⟩)
    (h_c_l_is_integer : PySem.W.codeIn K cd_l_is_integer "_law_is_integer" = true)
    (h_k_l_is_integer : PySem.W.keepIn K (.ref f_l_is_integer) = true)
    (h_a_l_ladder : PySem.W.nsIn K mainGlobals "_law_ladder" = some (some (.ref f_l_ladder)))
    (h_l_l_ladder : K.lookup f_l_ladder = some ⟨oc_l_ladder, od_l_ladder, .func (PySem.W.fnOf "_law_ladder" "_law_ladder" (defArgs s_l_ladder) (defBody s_l_ladder) (defScope s_l_ladder) .none kV_l_ladder dc_l_ladder pm_l_ladder an_l_ladder cd_l_ladder ct_l_ladder), sl_l_ladder⟩)
    (h_c_l_ladder : PySem.W.codeIn K cd_l_ladder "_law_ladder" = true)
    (h_k_l_ladder : PySem.W.keepIn K (.ref f_l_ladder) = true)
    (h_a_l_made : PySem.W.nsIn K mainGlobals "_law_made" = some (some (.ref f_l_made)))
    (h_l_l_made : K.lookup f_l_made = some ⟨oc_l_made, od_l_made, .func (PySem.W.fnOf "_law_made" "_law_made" (defArgs s_l_made) (defBody s_l_made) (defScope s_l_made) .none kV_l_made dc_l_made pm_l_made an_l_made cd_l_made ct_l_made), sl_l_made⟩)
    (h_c_l_made : PySem.W.codeIn K cd_l_made "_law_made" = true)
    (h_k_l_made : PySem.W.keepIn K (.ref f_l_made) = true)
    (h_a_l_ladder_run : PySem.W.nsIn K mainGlobals "_law_ladder_run" = some (some (.ref f_l_ladder_run)))
    (h_l_l_ladder_run : K.lookup f_l_ladder_run = some ⟨oc_l_ladder_run, od_l_ladder_run, .func (PySem.W.fnOf "_law_ladder_run" "_law_ladder_run" (defArgs s_l_ladder_run) (defBody s_l_ladder_run) (defScope s_l_ladder_run) .none kV_l_ladder_run dc_l_ladder_run pm_l_ladder_run an_l_ladder_run cd_l_ladder_run ct_l_ladder_run), sl_l_ladder_run⟩)
    (h_c_l_ladder_run : PySem.W.codeIn K cd_l_ladder_run "_law_ladder_run" = true)
    (h_k_l_ladder_run : PySem.W.keepIn K (.ref f_l_ladder_run) = true)
    (h_a_law : PySem.W.nsIn K mainGlobals "law" = some (some (.ref f_law)))
    (h_l_law : K.lookup f_law = some ⟨oc_law, od_law, .func (PySem.W.fnOf "law" "law" (defArgs s_law) (defBody s_law) (defScope s_law) .none kV_law dc_law pm_law an_law cd_law ct_law), sl_law⟩)
    (h_c_law : PySem.W.codeIn K cd_law "law" = true)
    (h_k_law : PySem.W.keepIn K (.ref f_law) = true)
    (h_cdl : cd_law = .ref Ct)
    (h_clk : K.lookup Ct = some ⟨eC, dC, .fields vC, slC⟩)
    (h_cvp : vC[11]? = some (.ref Pt))
    (h_cpn : K.lookup Pt = none)
    (h_chd : PySem.W.codeHdIn K Ct Pt = true)
    (h_g_QUESTIONS : PySem.W.nsIn K mainGlobals "QUESTIONS" = some (some (.int 48 t_QUESTIONS)))
    (h_g_QUESTIONS_OF_A_LEVEL : PySem.W.nsIn K mainGlobals "QUESTIONS_OF_A_LEVEL" = some (some (.int 8 t_QUESTIONS_OF_A_LEVEL)))
    (h_z_abs : PySem.W.nsIn K mainGlobals "abs" = some none)
    (h_z_bool : PySem.W.nsIn K mainGlobals "bool" = some none)
    (h_z_int : PySem.W.nsIn K mainGlobals "int" = some none)
    (h_z_isinstance : PySem.W.nsIn K mainGlobals "isinstance" = some none)
    (h_z_len : PySem.W.nsIn K mainGlobals "len" = some none)
    (h_z_list : PySem.W.nsIn K mainGlobals "list" = some none)
    (h_z_range : PySem.W.nsIn K mainGlobals "range" = some none)
    (h_z_set : PySem.W.nsIn K mainGlobals "set" = some none)
    (h_z_sorted : PySem.W.nsIn K mainGlobals "sorted" = some none)
    (h_z_sum : PySem.W.nsIn K mainGlobals "sum" = some none)
    (h_z_tuple : PySem.W.nsIn K mainGlobals "tuple" = some none) :
    ∃ (fd : FuncData) (c P : Addr), h.get? P = some { cls := .none, data := .fields #[] } ∧ K.lookup P = none ∧ PySem.W.CodeHd h c P ∧ (∀ (s : Shared) (v : Value), BindsTo s fd ⟨[v], []⟩ [("_law_script", v)]) ∧ ∀ base : Heap, K.In base → base.Ns mainGlobals mg → LamX.TabB base mg c P → FnOk l.prog w K mg base CX0 12 fa fd ["_law_script"] (spT K P) := by
  subst h_cdl
  have e := hfa.symm.trans (PySem.W.mg_of X G h_a_law)
  cases e
  have T : Txt K mg (Ad.mk c_Pupil c_Ladder f_is_question (PySem.W.fnOf "is_question" "is_question" (defArgs s_is_question) (defBody s_is_question) (defScope s_is_question) .none kV_is_question dc_is_question pm_is_question an_is_question cd_is_question ct_is_question) f_Pupil_init (PySem.W.fnOf "__init__" "Pupil.__init__" (defArgs s_Pupil_init) (defBody s_Pupil_init) (defScope s_Pupil_init) .none kV_Pupil_init dc_Pupil_init pm_Pupil_init an_Pupil_init cd_Pupil_init ct_Pupil_init) f_Pupil_contains (PySem.W.fnOf "__contains__" "Pupil.__contains__" (defArgs s_Pupil_contains) (defBody s_Pupil_contains) (defScope s_Pupil_contains) .none kV_Pupil_contains dc_Pupil_contains pm_Pupil_contains an_Pupil_contains cd_Pupil_contains ct_Pupil_contains) f_Ladder_init (PySem.W.fnOf "__init__" "Ladder.__init__" (defArgs s_Ladder_init) (defBody s_Ladder_init) (defScope s_Ladder_init) .none (.ref kD_Ladder_init) dc_Ladder_init pm_Ladder_init an_Ladder_init cd_Ladder_init ct_Ladder_init) f_Ladder_eq (PySem.W.fnOf "__eq__" "Ladder.__eq__" (defArgs s_Ladder_eq) (defBody s_Ladder_eq) (defScope s_Ladder_eq) .none kV_Ladder_eq dc_Ladder_eq pm_Ladder_eq an_Ladder_eq cd_Ladder_eq ct_Ladder_eq) f_first_state (PySem.W.fnOf "_first_state" "_first_state" (defArgs s_first_state) (defBody s_first_state) (defScope s_first_state) .none kV_first_state dc_first_state pm_first_state an_first_state cd_first_state ct_first_state) f_has_ended (PySem.W.fnOf "_has_ended" "_has_ended" (defArgs s_has_ended) (defBody s_has_ended) (defScope s_has_ended) .none kV_has_ended dc_has_ended pm_has_ended an_has_ended cd_has_ended ct_has_ended) f_question_of (PySem.W.fnOf "_question_of" "_question_of" (defArgs s_question_of) (defBody s_question_of) (defScope s_question_of) .none kV_question_of dc_question_of pm_question_of an_question_of cd_question_of ct_question_of) f_state_behind (PySem.W.fnOf "_state_behind" "_state_behind" (defArgs s_state_behind) (defBody s_state_behind) (defScope s_state_behind) .none kV_state_behind dc_state_behind pm_state_behind an_state_behind cd_state_behind ct_state_behind) f_ladder_run (PySem.W.fnOf "ladder_run" "ladder_run" (defArgs s_ladder_run) (defBody s_ladder_run) (defScope s_ladder_run) .none kV_ladder_run dc_ladder_run pm_ladder_run an_ladder_run cd_ladder_run ct_ladder_run) f_l_pool (PySem.W.fnOf "_law_pool" "_law_pool" (defArgs s_l_pool) (defBody s_l_pool) (defScope s_l_pool) .none kV_l_pool dc_l_pool pm_l_pool an_l_pool cd_l_pool ct_l_pool) f_l_draw (PySem.W.fnOf "_law_draw" "_law_draw" (defArgs s_l_draw) (defBody s_l_draw) (defScope s_l_draw) .none kV_l_draw dc_l_draw pm_l_draw an_l_draw cd_l_draw ct_l_draw) f_l_is_integer (PySem.W.fnOf "_law_is_integer" "_law_is_integer" (defArgs s_l_is_integer) (defBody s_l_is_integer) (defScope s_l_is_integer) .none kV_l_is_integer dc_l_is_integer pm_l_is_integer an_l_is_integer cd_l_is_integer ct_l_is_integer) f_l_ladder (PySem.W.fnOf "_law_ladder" "_law_ladder" (defArgs s_l_ladder) (defBody s_l_ladder) (defScope s_l_ladder) .none kV_l_ladder dc_l_ladder pm_l_ladder an_l_ladder cd_l_ladder ct_l_ladder) f_l_made (PySem.W.fnOf "_law_made" "_law_made" (defArgs s_l_made) (defBody s_l_made) (defScope s_l_made) .none kV_l_made dc_l_made pm_l_made an_l_made cd_l_made ct_l_made) f_l_ladder_run (PySem.W.fnOf "_law_ladder_run" "_law_ladder_run" (defArgs s_l_ladder_run) (defBody s_l_ladder_run) (defScope s_l_ladder_run) .none kV_l_ladder_run dc_l_ladder_run pm_l_ladder_run an_l_ladder_run cd_l_ladder_run ct_l_ladder_run) fa (PySem.W.fnOf "law" "law" (defArgs s_law) (defBody s_law) (defScope s_law) .none kV_law dc_law pm_law an_law (.ref Ct) ct_law) Ct Pt t_QUESTIONS t_QUESTIONS_OF_A_LEVEL) :=
    Txt.mk (PySem.W.mg_of X G h_g_Pupil) (⟨h_pg_Pupil, h_hd_Pupil, h_po_Pupil, h_sa_Pupil⟩) (⟨h_mkk_Pupil, h_a_Pupil_init, h_i_Pupil_init, h_kc_Pupil⟩) (h_nA_Pupil_rights) (PySem.W.mg_of X G h_g_Ladder) (⟨h_pg_Ladder, h_hd_Ladder, h_po_Ladder, h_sa_Ladder⟩) (⟨h_mkk_Ladder, h_a_Ladder_init, h_i_Ladder_init, h_kc_Ladder⟩) (h_nA_Ladder_levels) (h_nA_Ladder_begin) (h_nA_Ladder_up) (h_nA_Ladder_down) (h_nA_Ladder_count) (h_nA_Ladder_most_wrongs) (⟨h_ic1_Ladder, h_ic2_Ladder, h_ic3_Ladder, h_ic4_Ladder⟩) (if_pos (beq_self_eq_true _)) (fun_mk h_l_is_question h_c_is_question h_k_is_question) ((fun_mk (st := s_is_question) h_l_is_question h_c_is_question h_k_is_question).binds (ps := P_is_question) fun _ _ _ _ _ _ us hl => match us, hl with | [_], _ => rfl) (h_k_is_question) (PySem.W.mg_of X G h_a_is_question) (fun_mk h_l_Pupil_init h_c_Pupil_init h_k_Pupil_init) ((fun_mk (st := s_Pupil_init) h_l_Pupil_init h_c_Pupil_init h_k_Pupil_init).binds (ps := P_Pupil_init) fun _ _ _ _ _ _ us hl => match us, hl with | [_, _], _ => rfl) (h_k_Pupil_init) (h_i_Pupil_init) (fun_mk h_l_Pupil_contains h_c_Pupil_contains h_k_Pupil_contains) ((fun_mk (st := s_Pupil_contains) h_l_Pupil_contains h_c_Pupil_contains h_k_Pupil_contains).binds (ps := P_Pupil_contains) fun _ _ _ _ _ _ us hl => match us, hl with | [_, _], _ => rfl) (h_k_Pupil_contains) (h_i_Pupil_contains) (h_a_Pupil_contains) (fun_mk h_l_Ladder_init h_c_Ladder_init h_k_Ladder_init) (h_k_Ladder_init) (h_i_Ladder_init) (⟨fun s us ws _ hl hw => match us, hl, ws, hw with | [_], _, [_, _, _, _, _, _], _ => .of_eq rfl, fun r1 r2 => vals_app r1 r2⟩) (fun_mk h_l_Ladder_eq h_c_Ladder_eq h_k_Ladder_eq) ((fun_mk (st := s_Ladder_eq) h_l_Ladder_eq h_c_Ladder_eq h_k_Ladder_eq).binds (ps := P_Ladder_eq) fun _ _ _ _ _ _ us hl => match us, hl with | [_, _], _ => rfl) (h_k_Ladder_eq) (h_i_Ladder_eq) (h_a_Ladder_eq) (fun_mk h_l_first_state h_c_first_state h_k_first_state) ((fun_mk (st := s_first_state) h_l_first_state h_c_first_state h_k_first_state).binds (ps := P_first_state) fun _ _ _ _ _ _ us hl => match us, hl with | [_], _ => rfl) (h_k_first_state) (PySem.W.mg_of X G h_a_first_state) (fun_mk h_l_has_ended h_c_has_ended h_k_has_ended) ((fun_mk (st := s_has_ended) h_l_has_ended h_c_has_ended h_k_has_ended).binds (ps := P_has_ended) fun _ _ _ _ _ _ us hl => match us, hl with | [_, _], _ => rfl) (h_k_has_ended) (PySem.W.mg_of X G h_a_has_ended) (fun_mk h_l_question_of h_c_question_of h_k_question_of) ((fun_mk (st := s_question_of) h_l_question_of h_c_question_of h_k_question_of).binds (ps := P_question_of) fun _ _ _ _ _ _ us hl => match us, hl with | [_], _ => rfl) (h_k_question_of) (PySem.W.mg_of X G h_a_question_of) (fun_mk h_l_state_behind h_c_state_behind h_k_state_behind) ((fun_mk (st := s_state_behind) h_l_state_behind h_c_state_behind h_k_state_behind).binds (ps := P_state_behind) fun _ _ _ _ _ _ us hl => match us, hl with | [_, _, _], _ => rfl) (h_k_state_behind) (PySem.W.mg_of X G h_a_state_behind) (fun_mk h_l_ladder_run h_c_ladder_run h_k_ladder_run) ((fun_mk (st := s_ladder_run) h_l_ladder_run h_c_ladder_run h_k_ladder_run).binds (ps := P_ladder_run) fun _ _ _ _ _ _ us hl => match us, hl with | [_, _], _ => rfl) (h_k_ladder_run) (PySem.W.mg_of X G h_a_ladder_run) (fun_mk h_l_l_pool h_c_l_pool h_k_l_pool) ((fun_mk (st := s_l_pool) h_l_l_pool h_c_l_pool h_k_l_pool).binds (ps := P_l_pool) fun _ _ _ _ _ _ us hl => match us, hl with | [_], _ => rfl) (h_k_l_pool) (PySem.W.mg_of X G h_a_l_pool) (fun_mk h_l_l_draw h_c_l_draw h_k_l_draw) ((fun_mk (st := s_l_draw) h_l_l_draw h_c_l_draw h_k_l_draw).binds (ps := P_l_draw) fun _ _ _ _ _ _ us hl => match us, hl with | [_, _], _ => rfl) (h_k_l_draw) (PySem.W.mg_of X G h_a_l_draw) (fun_mk h_l_l_is_integer h_c_l_is_integer h_k_l_is_integer) ((fun_mk (st := s_l_is_integer) h_l_l_is_integer h_c_l_is_integer h_k_l_is_integer).binds (ps := P_l_is_integer) fun _ _ _ _ _ _ us hl => match us, hl with | [_], _ => rfl) (h_k_l_is_integer) (PySem.W.mg_of X G h_a_l_is_integer) (fun_mk h_l_l_ladder h_c_l_ladder h_k_l_ladder) ((fun_mk (st := s_l_ladder) h_l_l_ladder h_c_l_ladder h_k_l_ladder).binds (ps := P_l_ladder) fun _ _ _ _ _ _ us hl => match us, hl with | [_], _ => rfl) (h_k_l_ladder) (PySem.W.mg_of X G h_a_l_ladder) (fun_mk h_l_l_made h_c_l_made h_k_l_made) ((fun_mk (st := s_l_made) h_l_l_made h_c_l_made h_k_l_made).binds (ps := P_l_made) fun _ _ _ _ _ _ us hl => match us, hl with | [_], _ => rfl) (h_k_l_made) (PySem.W.mg_of X G h_a_l_made) (fun_mk h_l_l_ladder_run h_c_l_ladder_run h_k_l_ladder_run) ((fun_mk (st := s_l_ladder_run) h_l_l_ladder_run h_c_l_ladder_run h_k_l_ladder_run).binds (ps := P_l_ladder_run) fun _ _ _ _ _ _ us hl => match us, hl with | [_, _], _ => rfl) (h_k_l_ladder_run) (PySem.W.mg_of X G h_a_l_ladder_run) (fun_mk h_l_law h_c_law h_k_law) ((fun_mk (st := s_law) h_l_law h_c_law h_k_law).binds (ps := P_law) fun _ _ _ _ _ _ us hl => match us, hl with | [_], _ => rfl) (h_k_law) (PySem.W.mg_of X G h_a_law) (PySem.W.mg_of X G h_g_QUESTIONS) (PySem.W.mg_of X G h_g_QUESTIONS_OF_A_LEVEL) (PySem.W.mg_none_of X G h_z_abs) (PySem.W.mg_none_of X G h_z_bool) (PySem.W.mg_none_of X G h_z_int) (PySem.W.mg_none_of X G h_z_isinstance) (PySem.W.mg_none_of X G h_z_len) (PySem.W.mg_none_of X G h_z_list) (PySem.W.mg_none_of X G h_z_range) (PySem.W.mg_none_of X G h_z_set) (PySem.W.mg_none_of X G h_z_sorted) (PySem.W.mg_none_of X G h_z_sum) (PySem.W.mg_none_of X G h_z_tuple)
  exact ⟨_, Ct, Pt, own Ct Pt _ _ _ _ _ _ h_l_law rfl rfl h_clk h_cvp, h_cpn, PySem.W.codeHd_of_K X h_chd, fun s v => .of_eq rfl, fun base _ _ TB => ok_law T h_l_law h_c_law TB⟩
theorem walk {l : PySem.W.OpenLaw} {q : Program} {loose : List Str} {XP : (Str → Option Value) → Heap → Prop} {YP : World → Heap → Prop} {d : DefRec} {K : Params → PySem.W.Frag} (hn : l.most = some 63) (hdf : d.params.defaults = []) (hrec : ((recsOf q).any fun e => e.name == d.name) = true)
    (hY : ∀ (w : World) (h : Heap), YP w h → (K w.params).In h)
    (F : ∀ (w : World) (mg : Str → Option Value) (fa : Addr) (h : Heap), (K w.params).In h → h.Ns mainGlobals mg → mg d.name = some (.ref fa) → LamX.OwnTab (K w.params) fa h →
      ∃ (fd : FuncData) (c P : Addr), h.get? P = some { cls := .none, data := .fields #[] } ∧ (K w.params).lookup P = none ∧ PySem.W.CodeHd h c P ∧ (∀ (s : Shared) (u : Value), BindsTo s fd ⟨[u], []⟩ [("_law_script", u)]) ∧ ∀ base : Heap, (K w.params).In base → base.Ns mainGlobals mg → LamX.TabB base mg c P → FnOk l.prog w (K w.params) mg base CX0 12 fa fd ["_law_script"] (spT (K w.params) P)) :
    PySem.W.WalkO q loose XP YP l.row.toRowW d [] (fun f vs => PySem.call f vs) :=
  L2.walk_own (k := 12) (x := "_law_script") hn hdf ⟨rfl, by decide, by decide⟩ hrec hY F
end K11

open PySem PySem.W PyProof.Rows in
set_option maxRecDepth 100000 in
set_option maxHeartbeats 0 in
theorem PySem.Challenge.cw_steppedtests_k11_ladder_runs_holds : PySem.Challenge.rw_steppedtests_k11_ladder_runs.Holds := by
  w_on; o_law; k_head; (case hw => w_witness2)
  k_fill
  refine K11.walk (l := PySem.Challenge.rw_steppedtests_k11_ladder_runs) rfl rfl (by kernel_rfl) (fun w h Y => PySem.W.km_in_of Y) ?F
  case F =>
    intro w mg fa h KX G hmg own
    refine' K11.all_mk KX G hmg own ?h_g_Pupil ?h_pg_Pupil ?h_hd_Pupil ?h_po_Pupil ?h_sa_Pupil ?h_mkk_Pupil ?h_kc_Pupil ?h_nA_Pupil_rights ?h_g_Ladder ?h_pg_Ladder ?h_hd_Ladder ?h_po_Ladder ?h_sa_Ladder ?h_mkk_Ladder ?h_kc_Ladder ?h_nA_Ladder_levels ?h_nA_Ladder_begin ?h_nA_Ladder_up ?h_nA_Ladder_down ?h_nA_Ladder_count ?h_nA_Ladder_most_wrongs ?h_ic1_Ladder ?h_ic2_Ladder ?h_ic3_Ladder ?h_ic4_Ladder ?h_a_is_question ?h_l_is_question ?h_c_is_question ?h_k_is_question ?h_a_Pupil_init ?h_i_Pupil_init ?h_l_Pupil_init ?h_c_Pupil_init ?h_k_Pupil_init ?h_a_Pupil_contains ?h_i_Pupil_contains ?h_l_Pupil_contains ?h_c_Pupil_contains ?h_k_Pupil_contains ?h_a_Ladder_init ?h_i_Ladder_init ?h_l_Ladder_init ?h_c_Ladder_init ?h_k_Ladder_init ?h_a_Ladder_eq ?h_i_Ladder_eq ?h_l_Ladder_eq ?h_c_Ladder_eq ?h_k_Ladder_eq ?h_a_first_state ?h_l_first_state ?h_c_first_state ?h_k_first_state ?h_a_has_ended ?h_l_has_ended ?h_c_has_ended ?h_k_has_ended ?h_a_question_of ?h_l_question_of ?h_c_question_of ?h_k_question_of ?h_a_state_behind ?h_l_state_behind ?h_c_state_behind ?h_k_state_behind ?h_a_ladder_run ?h_l_ladder_run ?h_c_ladder_run ?h_k_ladder_run ?h_a_l_pool ?h_l_l_pool ?h_c_l_pool ?h_k_l_pool ?h_a_l_draw ?h_l_l_draw ?h_c_l_draw ?h_k_l_draw ?h_a_l_is_integer ?h_l_l_is_integer ?h_c_l_is_integer ?h_k_l_is_integer ?h_a_l_ladder ?h_l_l_ladder ?h_c_l_ladder ?h_k_l_ladder ?h_a_l_made ?h_l_l_made ?h_c_l_made ?h_k_l_made ?h_a_l_ladder_run ?h_l_l_ladder_run ?h_c_l_ladder_run ?h_k_l_ladder_run ?h_a_law ?h_l_law ?h_c_law ?h_k_law ?h_cdl ?h_clk ?h_cvp ?h_cpn ?h_chd ?h_g_QUESTIONS ?h_g_QUESTIONS_OF_A_LEVEL ?h_z_abs ?h_z_bool ?h_z_int ?h_z_isinstance ?h_z_len ?h_z_list ?h_z_range ?h_z_set ?h_z_sorted ?h_z_sum ?h_z_tuple
    (case h_g_Pupil => k_is)
    (case h_pg_Pupil => k_is)
    (case h_hd_Pupil => k_is)
    (case h_po_Pupil => k_is)
    (case h_sa_Pupil => k_is)
    (case h_mkk_Pupil => k_is)
    (case h_kc_Pupil => k_is)
    (case h_nA_Pupil_rights => k_is)
    (case h_g_Ladder => k_is)
    (case h_pg_Ladder => k_is)
    (case h_hd_Ladder => k_is)
    (case h_po_Ladder => k_is)
    (case h_sa_Ladder => k_is)
    (case h_mkk_Ladder => k_is)
    (case h_kc_Ladder => k_is)
    (case h_nA_Ladder_levels => k_is)
    (case h_nA_Ladder_begin => k_is)
    (case h_nA_Ladder_up => k_is)
    (case h_nA_Ladder_down => k_is)
    (case h_nA_Ladder_count => k_is)
    (case h_nA_Ladder_most_wrongs => k_is)
    (case h_ic1_Ladder => k_is)
    (case h_ic2_Ladder => k_is)
    (case h_ic3_Ladder => k_is)
    (case h_ic4_Ladder => k_is)
    (case h_a_is_question => k_is)
    (case h_l_is_question => k_is)
    (case h_c_is_question => k_is)
    (case h_k_is_question => k_is)
    (case h_a_Pupil_init => k_is)
    (case h_i_Pupil_init => k_is)
    (case h_l_Pupil_init => k_is)
    (case h_c_Pupil_init => k_is)
    (case h_k_Pupil_init => k_is)
    (case h_a_Pupil_contains => k_is)
    (case h_i_Pupil_contains => k_is)
    (case h_l_Pupil_contains => k_is)
    (case h_c_Pupil_contains => k_is)
    (case h_k_Pupil_contains => k_is)
    (case h_a_Ladder_init => k_is)
    (case h_i_Ladder_init => k_is)
    (case h_l_Ladder_init => k_is)
    (case h_c_Ladder_init => k_is)
    (case h_k_Ladder_init => k_is)
    (case h_a_Ladder_eq => k_is)
    (case h_i_Ladder_eq => k_is)
    (case h_l_Ladder_eq => k_is)
    (case h_c_Ladder_eq => k_is)
    (case h_k_Ladder_eq => k_is)
    (case h_a_first_state => k_is)
    (case h_l_first_state => k_is)
    (case h_c_first_state => k_is)
    (case h_k_first_state => k_is)
    (case h_a_has_ended => k_is)
    (case h_l_has_ended => k_is)
    (case h_c_has_ended => k_is)
    (case h_k_has_ended => k_is)
    (case h_a_question_of => k_is)
    (case h_l_question_of => k_is)
    (case h_c_question_of => k_is)
    (case h_k_question_of => k_is)
    (case h_a_state_behind => k_is)
    (case h_l_state_behind => k_is)
    (case h_c_state_behind => k_is)
    (case h_k_state_behind => k_is)
    (case h_a_ladder_run => k_is)
    (case h_l_ladder_run => k_is)
    (case h_c_ladder_run => k_is)
    (case h_k_ladder_run => k_is)
    (case h_a_l_pool => k_is)
    (case h_l_l_pool => k_is)
    (case h_c_l_pool => k_is)
    (case h_k_l_pool => k_is)
    (case h_a_l_draw => k_is)
    (case h_l_l_draw => k_is)
    (case h_c_l_draw => k_is)
    (case h_k_l_draw => k_is)
    (case h_a_l_is_integer => k_is)
    (case h_l_l_is_integer => k_is)
    (case h_c_l_is_integer => k_is)
    (case h_k_l_is_integer => k_is)
    (case h_a_l_ladder => k_is)
    (case h_l_l_ladder => k_is)
    (case h_c_l_ladder => k_is)
    (case h_k_l_ladder => k_is)
    (case h_a_l_made => k_is)
    (case h_l_l_made => k_is)
    (case h_c_l_made => k_is)
    (case h_k_l_made => k_is)
    (case h_a_l_ladder_run => k_is)
    (case h_l_l_ladder_run => k_is)
    (case h_c_l_ladder_run => k_is)
    (case h_k_l_ladder_run => k_is)
    (case h_a_law => k_is)
    (case h_l_law => k_is)
    (case h_c_law => k_is)
    (case h_k_law => k_is)
    (case h_cdl => rfl)
    (case h_clk => k_is)
    (case h_cvp => rfl)
    (case h_cpn => first | rfl | k_is | kernel_rfl)
    (case h_chd => first | rfl | k_is | kernel_rfl)
    (case h_g_QUESTIONS => k_is)
    (case h_g_QUESTIONS_OF_A_LEVEL => k_is)
    (case h_z_abs => k_is)
    (case h_z_bool => k_is)
    (case h_z_int => k_is)
    (case h_z_isinstance => k_is)
    (case h_z_len => k_is)
    (case h_z_list => k_is)
    (case h_z_range => k_is)
    (case h_z_set => k_is)
    (case h_z_sorted => k_is)
    (case h_z_sum => k_is)
    (case h_z_tuple => k_is)
