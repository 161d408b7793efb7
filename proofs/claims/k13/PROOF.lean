import PyProof.Rows.All
import Wide.All
import OpenK.AllK
import Wide.FinOn
import HandS.ForMost
import HandS.Style
import HandS.IsInst
import HandS.More
import HandS.Evl
import HandS.Zip
import HandS.Walk
import HandS.SetFor
import HandS.Defaults
import HandS.ForExc
import HandS.CallSlots
import HandS.SlotsOwn
import HandS.OwnIter
import HandS.IterNext
import HandS.ClsMeth
import HandS.Deep
import KE.KExcSuper
import HandS.ExcInit
import HandS.Nested
import HandS.ExcField
import HandS.ExcIs
import HandS.TryMany
import HandS.TryOnly
import HandS.ExcOwn
import HandS.WordsExc
import KE.KExcIs
import HandS.Exc
import HandS.Sort
import KE.KDictCopyH
import HandS.DictComp
import HandS.Comp
import KE.GoesComp2
import HandS.Star
import PySem.Challenge.RW_coretower_k13_table_tells
import HandS.FStr
import PyProof.Rows.RegStrFacts
import HandS.Wide
import HandS.NoneIn
import HandS.MakeKw
import KE.RegKSuper
set_option Elab.async false
set_option linter.all false
set_option maxRecDepth 100000
set_option maxHeartbeats 4000000
/-! ### small things over the layer: frames, loops, tests -/
namespace My
open PySem L2
section
variable {P : Program} {w : World} {K : PySem.W.Frag} {mg : Str → Option Value} {base : Heap}
/-- a def of the text, where it stands -/
structure Df (K : PySem.W.Frag) (mg : Str → Option Value) (x : Str) (st : Stmt) (ps : List Str) (f : Addr) (fd : FuncData) : Prop where
  F : Fun K x x st f fd
  g : mg x = some (.ref f)
  b : Binds K fd ps []
theorem cxK {CX : CXT} {N : List Str} {q : Str} {sc : Scope} {f : Addr} {cdv : Value} {A : Around} {outer : List Env} {s : Shared} {H : Hp} {E : XK} : (cxOf CX P w K mg base N q sc f cdv A outer s H E).K = K := rfl
theorem cxnK {CX : CXT} {N : List Str} {q : Str} {sc : Scope} {f : Addr} {cdv : Value} {A : Around} {outer : List Env} {s : Shared} {H : Hp} {E : XK} : (cxOf CX P w K mg base N q sc f cdv A outer s H E).nox.K = K := rfl
end
/-! ### frames -/
/-- what stood outside of S stands as it did -/
def Kp (S : List Addr) (H H' : Hp) : Prop := ∀ b o, b ∉ S → H b = some o → H' b = some o
theorem Kp.refl (S : List Addr) (H : Hp) : Kp S H H := fun _ _ _ h => h
theorem Kp.trans {S : List Addr} {H H1 H2 : Hp} (a : Kp S H H1) (b : Kp S H1 H2) : Kp S H H2 := fun c o hc h => b c o hc (a c o hc h)
theorem Kp.mono {S T : List Addr} {H H' : Hp} (a : Kp S H H') (h : ∀ x ∈ S, x ∈ T) : Kp T H H' := fun c o hc e => a c o (fun z => hc (h c z)) e
theorem Kp.of0 {T : List Addr} {H H' : Hp} (a : Kp [] H H') : Kp T H H' := a.mono fun x hx => nomatch hx
theorem Kp.new {S : List Addr} {H : Hp} {p : Addr} {o : HO} (h : H p = none) : Kp S H (upd H p o) := fun a u _ e => by
  rw [upd_ne (ne_of_none e h)]
  exact e
/-- a write to something that was not there at the beginning -/
theorem Kp.wr {S : List Addr} {H H' : Hp} {p : Addr} {o : HO} (a : Kp S H H') (h : H p = none) : Kp S H (upd H' p o) := fun b u hb e => by
  rw [upd_ne (ne_of_none e h)]
  exact a b u hb e
theorem Kp.put {S : List Addr} {H H' : Hp} {p : Addr} {o : HO} (a : Kp S H H') (h : p ∈ S) : Kp S H (upd H' p o) := fun b u hb e => by
  rw [upd_ne (fun z => hb (by rw [z]; exact h))]
  exact a b u hb e
theorem Kp.ls {S : List Addr} {K : PySem.W.Frag} {H H' : Hp} {a : Addr} {xs : List V} (k : Kp S H H') (ha : a ∉ S) (h : SqL K H a xs) : SqL K H' a xs := by
  rcases h with (h | ⟨o, h⟩) | h
  · exact .inl (.inl (k _ _ ha h))
  · exact .inl (.inr ⟨o, k _ _ ha h⟩)
  · exact .inr h
theorem Kp.tp {S : List Addr} {K : PySem.W.Frag} {H H' : Hp} {a : Addr} {xs : List V} (k : Kp S H H') (ha : a ∉ S) (h : SqT K H a xs) : SqT K H' a xs := by
  rcases h with (h | ⟨o, h⟩) | h
  · exact .inl (.inl (k _ _ ha h))
  · exact .inl (.inr ⟨o, k _ _ ha h⟩)
  · exact .inr h
theorem Kp.free {S : List Addr} {H H' : Hp} {p : Addr} (k : Kp S H H') (hp : H' p = none) (hs : ∀ a ∈ S, ∃ o, H' a = some o) : H p = none := by
  cases e : H p with
  | none => rfl
  | some o =>
    by_cases h : p ∈ S
    · obtain ⟨u, hu⟩ := hs p h
      rw [hp] at hu; cases hu
    · rw [k p o h e] at hp; cases hp
theorem Kp.free0 {H H' : Hp} {p : Addr} (k : Kp [] H H') (hp : H' p = none) : H p = none := k.free hp fun a h => nomatch h
theorem not1 {a b : Addr} (h : b ≠ a) : b ∉ [a] := fun z => h (List.mem_singleton.mp z)
theorem not0 {b : Addr} : b ∉ ([] : List Addr) := fun z => nomatch z
theorem sq_l {K : PySem.W.Frag} {H : Hp} {a : Addr} {xs : List V} (h : H a = some (.lst xs)) : SqL K H a xs := .inl (.inl h)
theorem sq_t {K : PySem.W.Frag} {H : Hp} {a : Addr} {xs : List V} (h : H a = some (.tup xs)) : SqT K H a xs := .inl (.inl h)
theorem small {n : Nat} (h : n ≤ 100000) : n ≤ sizeLine := Nat.le_trans h (by decide)
theorem smallL {n : Nat} (h : n ≤ 100000) : n < sizeLine := Nat.lt_of_le_of_lt h (by decide)
theorem ne_kind {H : Hp} {a b : Addr} {o u : HO} (h : H a = some o) (h' : H b = some u) (d : o ≠ u) : a ≠ b := ne_of h h' d
/-! ### subscripts -/
theorem atI_of {α : Type} {xs : List α} {i : Int} {v : α} (h0 : 0 ≤ i) (h : xs[i.toNat]? = some v) : atI xs i = some v := by
  have e := atI_nat h
  rwa [Int.toNat_of_nonneg h0] at e
theorem ixN_of {n : Nat} {i : Int} (h0 : 0 ≤ i) (h : i < n) : ixN n i = some i.toNat := by
  unfold ixN
  rw [if_pos h0, if_pos h]
theorem atI_ex {α : Type} {xs : List α} {i : Int} (h0 : 0 ≤ i) (h : i < xs.length) : ∃ v, v ∈ xs ∧ atI xs i = some v := by
  have hl : i.toNat < xs.length := by omega
  exact ⟨xs[i.toNat], List.getElem_mem hl, atI_of h0 (List.getElem?_eq_getElem hl)⟩
/-! ### isinstance -/
section
variable {K : PySem.W.Frag} {H : Hp} {Q : VK}
theorem isi_mk {x : V} {n m : String} {b : Bool} (h : TyOf K H x (.type n)) (k : kitB n m = some b) (q : Q (.bl b) H) : rIsi K [x, .ty m] H Q := ⟨x, _, _, _, b, rfl, .ty m, .base h, kit_ty k, q⟩
theorem isi_int_str {i : Int} (q : Q (.bl false) H) : rIsi K [.int i, .ty "str"] H Q := isi_mk (.int i) (by decide +kernel) q
theorem isi_str_str {i : Str} (q : Q (.bl true) H) : rIsi K [.str i, .ty "str"] H Q := isi_mk (.str i) (by decide +kernel) q
theorem isi_int_int {i : Int} (q : Q (.bl true) H) : rIsi K [.int i, .ty "int"] H Q := isi_mk (.int i) (by decide +kernel) q
theorem isi_int_bool {i : Int} (q : Q (.bl false) H) : rIsi K [.int i, .ty "bool"] H Q := isi_mk (.int i) (by decide +kernel) q
theorem isi_bl_bool {i : Bool} (q : Q (.bl true) H) : rIsi K [.bl i, .ty "bool"] H Q := isi_mk (.bl i) (by decide +kernel) q
end
theorem sc_ii {i j : Int} : scal (.int i) (.int j) = true := rfl
theorem sc_ss {i j : Str} : scal (.str i) (.str j) = true := rfl
theorem sc_bb {i j : Bool} : scal (.bl i) (.bl j) = true := rfl
theorem sc_ni {j : Int} : scal .non (.int j) = true := rfl
theorem sc_in {j : Int} : scal (.int j) .non = true := rfl
theorem sc_is {i : Int} {j : Str} : scal (.int i) (.str j) = true := rfl
theorem sc_si {i : Int} {j : Str} : scal (.str j) (.int i) = true := rfl
theorem sc_nn : scal .non .non = true := rfl
/-! ### loops -/
section
variable {K : PySem.W.Frag} {g : TG} {tb : TS} {D : Ends} {σ : St} {H : Hp}
theorem forL {a : Addr} {xs : List V} {i : Nat} (Pv : Nat → L2.St → Hp → Prop) (hσ : σ[i]? = some (some (.ref a))) (hS : SqL K H a xs) (h0 : Pv 0 σ H) (hl : ∀ j σ H, j ≤ xs.length → Pv j σ H → SqL K H a xs)
    (hs : ∀ j x σ H, xs[j]? = some x → Pv j σ H → g x σ H fun σ2 H2 => tb { D with nx := Pv (j + 1), ct := Pv (j + 1), bk := D.nx } σ2 H2) (hd : ∀ σ H, Pv xs.length σ H → D.nx σ H) : tFor (iList K (tVar i)) g tb D σ H :=
  ⟨_, hσ, a, rfl, ⟨xs, hS⟩, for_list Pv h0 hl hs hd⟩
theorem forT {a : Addr} {xs : List V} {i : Nat} (Pv : Nat → L2.St → Hp → Prop) (hσ : σ[i]? = some (some (.ref a))) (hS : SqT K H a xs) (h0 : Pv 0 σ H) (hl : ∀ j σ H, j ≤ xs.length → Pv j σ H → SqT K H a xs)
    (hs : ∀ j x σ H, xs[j]? = some x → Pv j σ H → g x σ H fun σ2 H2 => tb { D with nx := Pv (j + 1), ct := Pv (j + 1), bk := D.nx } σ2 H2) (hd : ∀ σ H, Pv xs.length σ H → D.nx σ H) : tFor (iTup K (tVar i)) g tb D σ H :=
  ⟨_, hσ, a, rfl, ⟨xs, hS⟩, for_tup Pv h0 hl hs hd⟩
/-- behind the reckoning of the bound: range(m) -/
theorem forR {ta : TA} {Qx : Hp → Int → Prop} (h : ta σ H fun vs H1 => ∃ m : Int, vs = [.int m] ∧ -(2 ^ 62) ≤ m ∧ m < 2 ^ 62 ∧ ∃ Pv : Nat → L2.St → Hp → Prop, Pv 0 σ H1 ∧
    (∀ j σ H, j < m.toNat → Pv j σ H → g (.int (0 + j)) σ H fun σ2 H2 => tb { D with nx := Pv (j + 1), ct := Pv (j + 1), bk := D.nx } σ2 H2) ∧ (∀ σ H, Pv m.toNat σ H → D.nx σ H))
    (mono : ∀ Q Q' : List V → Hp → Prop, (∀ vs H, Q vs H → Q' vs H) → ta σ H Q → ta σ H Q') : tFor (iRng1 ta) g tb D σ H := by
  refine mono _ _ ?_ h
  rintro vs H1 ⟨m, e, h1, h2, Pv, a, b, c⟩
  exact ⟨m, e, h1, h2, for_range Pv a b c⟩
end
/-! ### dicts -/
section
variable {κ : Type} [DecidableEq κ]
theorem keys_putK (kvs : List (κ × V)) (k : κ) (v : V) (h : (kvs.map (·.1)).Nodup) : ((putK kvs k v).map (·.1)).Nodup := by
  cases e : valV kvs k with
  | none => exact nd_putK v h e
  | some y =>
    have ha : (kvs.any fun kv => decide (kv.1 = k)) = true := by
      unfold valV at e
      cases q : kvs.find? fun kv => decide (kv.1 = k) with
      | none => rw [q] at e; cases e
      | some p => exact List.any_eq_true.mpr ⟨p, List.mem_of_find?_eq_some q, by simpa using List.find?_some q⟩
    unfold putK
    rw [if_pos ha, List.map_map]
    have e2 : ((fun kv : κ × V => kv.1) ∘ fun kv : κ × V => if kv.1 = k then (kv.1, v) else kv) = fun kv => kv.1 := by
      funext p
      show (if p.1 = k then (p.1, v) else p).1 = p.1
      split <;> rfl
    rw [e2]
    exact h
theorem mem_putK {kvs : List (κ × V)} {k : κ} {v : V} {p : κ × V} (h : p ∈ putK kvs k v) : p ∈ kvs ∨ p = (k, v) := by
  unfold putK at h
  split at h
  · obtain ⟨q, hq, e⟩ := List.mem_map.mp h
    split at e
    · rename_i hk
      exact .inr (by rw [← e, hk])
    · exact .inl (by rw [← e]; exact hq)
  · rcases List.mem_append.mp h with h | h
    · exact .inl h
    · exact .inr (List.mem_singleton.mp h)
theorem valV_mem {kvs : List (κ × V)} {k : κ} {v : V} (h : (kvs.map (·.1)).Nodup) (hm : (k, v) ∈ kvs) : valV kvs k = some v := by
  induction kvs with
  | nil => nomatch hm
  | cons p r ih =>
    rw [List.map_cons, List.nodup_cons] at h
    by_cases e : p.1 = k
    · rw [valV_pos e]
      rcases List.mem_cons.mp hm with z | z
      · rw [← z]
      · exact absurd (List.mem_map.mpr ⟨_, z, rfl⟩) (by rw [← e]; exact h.1)
    · rw [valV_neg e]
      rcases List.mem_cons.mp hm with z | z
      · exact absurd (by rw [← z]) e
      · exact ih h.2 z
end
end My

set_option Elab.async false
set_option linter.all false
set_option maxRecDepth 100000
set_option maxHeartbeats 4000000
namespace My
open PySem L2
/-! ### data that stands in tracked tuples and lists -/
mutual
inductive Dq (H : Hp) : V → PyData → Prop
  | non : Dq H .non .none
  | bl (b : Bool) : Dq H (.bl b) (.bool b)
  | int (i : Int) : Dq H (.int i) (.int i)
  | str (x : Str) : Dq H (.str x) (.str x)
  | lst {a : Addr} {xs : List V} {ds : List PyData} : H a = some (.lst xs) → DqAll H xs ds → Dq H (.ref a) (.list ds)
  | tup {a : Addr} {xs : List V} {ds : List PyData} : H a = some (.tup xs) → DqAll H xs ds → Dq H (.ref a) (.tuple ds)
inductive DqAll (H : Hp) : List V → List PyData → Prop
  | nil : DqAll H [] []
  | cons {v : V} {vs : List V} {d : PyData} {ds : List PyData} : Dq H v d → DqAll H vs ds → DqAll H (v :: vs) (d :: ds)
end
mutual
theorem Dq.kp {H H' : Hp} (k : Kp [] H H') : ∀ {d : PyData} {v : V}, Dq H v d → Dq H' v d
  | _, _, .non => .non
  | _, _, .bl b => .bl b
  | _, _, .int i => .int i
  | _, _, .str x => .str x
  | _, _, .lst e h => .lst (k _ _ not0 e) (DqAll.kp k h)
  | _, _, .tup e h => .tup (k _ _ not0 e) (DqAll.kp k h)
theorem DqAll.kp {H H' : Hp} (k : Kp [] H H') : ∀ {ds : List PyData} {vs : List V}, DqAll H vs ds → DqAll H' vs ds
  | _, _, .nil => .nil
  | _, _, .cons h t => .cons (Dq.kp k h) (DqAll.kp k t)
end
mutual
theorem Dq.dp {K : PySem.W.Frag} {H : Hp} : ∀ {d : PyData} {v : V}, Dq H v d → Dp K H v d
  | _, _, .non => .non
  | _, _, .bl b => .bl b
  | _, _, .int i => .int i
  | _, _, .str x => .str x
  | _, _, .lst e h => .lst (sq_l e) (DqAll.dp h)
  | _, _, .tup e h => .tup (sq_t e) (DqAll.dp h)
theorem DqAll.dp {K : PySem.W.Frag} {H : Hp} : ∀ {ds : List PyData} {vs : List V}, DqAll H vs ds → DpAll K H vs ds
  | _, _, .nil => .nil
  | _, _, .cons h t => .cons (Dq.dp h) (DqAll.dp t)
end
theorem DqAll.len {H : Hp} : ∀ {ds : List PyData} {vs : List V}, DqAll H vs ds → vs.length = ds.length
  | _, _, .nil => rfl
  | _, _, .cons h t => by rw [List.length_cons, List.length_cons, t.len]
theorem DqAll.get {H : Hp} : ∀ {ds : List PyData} {vs : List V}, DqAll H vs ds → ∀ {i : Nat} {v : V}, vs[i]? = some v → ∃ d, ds[i]? = some d ∧ Dq H v d
  | _, _, .nil, _, _, e => nomatch e
  | _, _, .cons h t, 0, _, e => by cases e; exact ⟨_, rfl, h⟩
  | _, _, .cons h t, i + 1, _, e => t.get (i := i) e
/-- its class -/
def tyD : PyData → String
  | .none => "NoneType"
  | .bool _ => "bool"
  | .int _ => "int"
  | .str _ => "str"
  | .list _ => "list"
  | .tuple _ => "tuple"
  | _ => "object"
theorem Dq.ty {K : PySem.W.Frag} {H : Hp} {v : V} {d : PyData} (h : Dq H v d) : TyOf K H v (.type (tyD d)) := by
  cases h with
  | non => exact .non
  | bl b => exact .bl b
  | int i => exact .int i
  | str x => exact .str x
  | lst e h => exact .lst e
  | tup e h => exact .tup e
def six (d : PyData) : Prop := match d with
  | .none | .bool _ | .int _ | .str _ | .list _ | .tuple _ => True
  | _ => False
theorem Dq.six {H : Hp} {v : V} {d : PyData} (h : Dq H v d) : six d := by
  cases h <;> exact True.intro
def isStrD : PyData → Bool | .str _ => true | _ => false
def isTupD : PyData → Bool | .tuple _ => true | _ => false
def isLstD : PyData → Bool | .list _ => true | _ => false
def isIntD : PyData → Bool | .int _ | .bool _ => true | _ => false
def isBoolD : PyData → Bool | .bool _ => true | _ => false
section
variable {K : PySem.W.Frag} {H : Hp} {Q : VK} {v : V} {d : PyData}
theorem isi_D (h : Dq H v d) {m : String} {b : Bool} (k : kitB (tyD d) m = some b) (q : Q (.bl b) H) : rIsi K [v, .ty m] H Q := isi_mk h.ty k q
theorem isi_Dstr (h : Dq H v d) (q : Q (.bl (isStrD d)) H) : rIsi K [v, .ty "str"] H Q := isi_D h (by cases h <;> simp only [tyD, isStrD, isTupD, isLstD, isIntD, isBoolD] <;> decide +kernel) q
theorem isi_Dtup (h : Dq H v d) (q : Q (.bl (isTupD d)) H) : rIsi K [v, .ty "tuple"] H Q := isi_D h (by cases h <;> simp only [tyD, isStrD, isTupD, isLstD, isIntD, isBoolD] <;> decide +kernel) q
theorem isi_Dlst (h : Dq H v d) (q : Q (.bl (isLstD d)) H) : rIsi K [v, .ty "list"] H Q := isi_D h (by cases h <;> simp only [tyD, isStrD, isTupD, isLstD, isIntD, isBoolD] <;> decide +kernel) q
theorem isi_Dint (h : Dq H v d) (q : Q (.bl (isIntD d)) H) : rIsi K [v, .ty "int"] H Q := isi_D h (by cases h <;> simp only [tyD, isStrD, isTupD, isLstD, isIntD, isBoolD] <;> decide +kernel) q
theorem isi_Dbool (h : Dq H v d) (q : Q (.bl (isBoolD d)) H) : rIsi K [v, .ty "bool"] H Q := isi_D h (by cases h <;> simp only [tyD, isStrD, isTupD, isLstD, isIntD, isBoolD] <;> decide +kernel) q
end
/-! ### xs.remove(text) -/
def eqs (z : Str) (v : Value) : Bool := match v with
  | .str y _ => y == z
  | _ => false
theorem str_beq' (w z : Str) : (w == z) = (w.cps.toList == z.cps.toList) := by
  rw [Bool.eq_iff_iff, beq_iff_eq, beq_iff_eq]
  constructor
  · rintro rfl; rfl
  · intro h
    obtain ⟨a⟩ := w
    obtain ⟨b⟩ := z
    obtain ⟨a⟩ := a
    obtain ⟨b⟩ := b
    have h' : a = b := h
    rw [h']
def rRemS : V → List V → Hp → VK → Prop := fun x xs H Q => ∃ (l : Addr) (zs : List Str) (z : Str) (j : Nat), x = .ref l ∧ xs = [.str z] ∧ H l = some (.lst (zs.map V.str)) ∧ zs[j]? = some z ∧ (∀ m : Nat, m < j → zs[m]? ≠ some z) ∧ Q .non (upd H l (.lst ((zs.eraseIdx j).map V.str)))
theorem vals_str : ∀ {zs : List Str} {us : List Value}, Vals (zs.map V.str) us → ∀ {i : Nat} {u : Value}, us[i]? = some u → ∃ y t, u = .str y t ∧ zs[i]? = some y
  | [], _, r, _, _, e => by cases r; cases e
  | z :: zs, us, r, i, u, e => by
    rw [List.map_cons] at r
    cases r with
    | cons r0 rt =>
      match i, e with
      | 0, e =>
        cases e
        obtain ⟨t, rfl⟩ := r0
        exact ⟨z, t, rfl, rfl⟩
      | i + 1, e => exact vals_str rt (i := i) e
theorem erase_mapS : ∀ (l : List Str) (j : Nat), (l.map V.str).eraseIdx j = (l.eraseIdx j).map V.str
  | [], j => by simp
  | _ :: _, 0 => by simp
  | _ :: r, j + 1 => by simp [erase_mapS r j]
theorem eqs_ok (w z : Str) (tw t : Tok) : MeetsSeq.EqGives (.str w tw) (.str z t) (eqs z (.str w tw)) := by
  have e : eqs z (.str w tw) = (w.cps.toList == z.cps.toList) := (str_beq' w z)
  rw [e]
  exact SeqRoads2.EqGives.str w z tw t
theorem mt_removeS {X : Cx} : MtM X "list.remove" rRemS := by
  intro pins s σ H x xs v us Q I rx rxs h
  obtain ⟨l, zs, z, j, rfl, rfl, hH, hj, hno, q⟩ := h
  cases rx
  obtain ⟨u, rfl, ru⟩ := rxs.one
  obtain ⟨t, rfl⟩ := ru
  obtain ⟨hz, its, n, r, hl, e⟩ := I.lstM hH
  rw [List.length_map] at hl hz
  have hjn : j < zs.length := (List.getElem?_eq_some_iff.mp hj).1
  have hjl : j < its.toArray.size := by rw [List.size_toArray]; omega
  have each : ∀ y, y ∈ its.toArray → MeetsSeq.EqGives y (.str z t) (eqs z y) := fun y hy => by
    obtain ⟨i, hi, e1⟩ := List.mem_iff_getElem.mp (show y ∈ its by simpa using hy)
    obtain ⟨w, tw, rfl, _⟩ := vals_str r (i := i) (by rw [List.getElem?_eq_getElem hi, e1])
    exact eqs_ok w z tw t
  have at_ : ∀ m (hm : m < its.toArray.size), ∃ t', its.toArray[m] = .str (zs[m]'(by rw [List.size_toArray] at hm; omega)) t' := fun m hm => by
    have hm' : m < its.length := by simpa using hm
    obtain ⟨w, tw, ew, ez⟩ := vals_str r (i := m) (List.getElem?_eq_getElem hm')
    have hmz : m < zs.length := by omega
    rw [List.getElem?_eq_getElem hmz] at ez
    exact ⟨tw, by rw [Option.some.inj ez]; simpa using ew⟩
  refine call_meets PySem.F.slot_list_remove ⟨_, e, rfl⟩ PySem.F.entry_list_remove (PySem.F.args_list_remove_2 _ _) (MeetsSeq.list_remove l its.toArray n (.str z t) (eqs z) each j hjl ?_ ?_ (by rw [List.size_toArray]; omega)) ⟨e, ?_⟩
  · obtain ⟨t', et⟩ := at_ j hjl
    rw [List.getElem?_eq_getElem hjn] at hj
    rw [et, Option.some.inj hj]
    exact beq_self_eq_true z
  · intro m hm hmj
    obtain ⟨t', et⟩ := at_ m hm
    rw [et]
    refine beq_eq_false_iff_ne.mpr fun e2 => hno m hmj ?_
    rw [← e2]
    exact List.getElem?_eq_getElem _
  · have rr := r.eraseIdx j
    rw [erase_mapS] at rr
    refine ⟨.non, _, I.lset (its' := its.eraseIdx j) (t' := s.toks) hH e ?_ rr ?_, rfl, q⟩
    · show its.toArray.eraseIdxIfInBounds j = (its.eraseIdx j).toArray
      rw [List.eraseIdxIfInBounds_toArray]
    · have := List.length_eraseIdx_le zs j
      rw [List.length_map]
      omega
/-! ### repr of data, nothing being shown -/
def rReprD (K : PySem.W.Frag) : List V → Hp → VK → Prop := fun xs H Q => ∃ (a : Addr) (d : PyData), xs = [.ref a] ∧ Dp K H (.ref a) d ∧ d.showable = true ∧ d.hasDict = false ∧ d.depth ≤ 60 ∧ d.shown.length ≤ sizeLine ∧ Q (.str d.shown) H
theorem call_reprD {X : Cx} (gd : X.A.guards = some [] ∧ X.A.units + 64 < cLine) : CallR X (.builtin "repr") (rReprD X.K) := by
  intro pins s σ H xs us Q I r h
  obtain ⟨a, d, rfl, hd, hs, hn, hp, hz, q⟩ := h
  obtain ⟨u, rfl, ru⟩ := vals1 r
  obtain ⟨as, rd⟩ := Dp.reads I d (.ref a) u hd ru
  cases (show u = Value.ref a from ru)
  refine repr_of_reads' rd hs (PyData.noDict_hsm hn) gd.1 (by omega) (fun _ _ e => e) (fun h' t tk hk => ⟨.str _, H, I.kept (t' := tk) hk, ⟨_, rfl⟩, q⟩) hz
/-! ### an own class made where what is raised is wished for at the slots -/
def tMakeS (C : Addr) (sp : Sp) (dvs : List V) (E : L2.St → XK) (t : TA) : TE := fun σ H Q => t σ H fun vs H1 => ∀ o d, H1 o = none → H1 d = none → d ≠ o → sp (.ref o :: (vs ++ dvs)) (upd (upd H1 d (.own o)) o (.ins C d [])) (fun v H2 => v = .non ∧ Q (.ref o) H2) (E σ)
section
variable {X : Cx} {CX : CXT} {k : Nat} {f C : Addr} {fd : FuncData} {ps : List Str} {sp : Sp} {dvs : List V} {ds : List Value} {E : L2.St → XK} {x : Str} {p pos : Pos} {e : Expr} {es : List Expr} {t : TA}
theorem pe_makeS (M : Mk X.K C f) (F : FnOk X.prog X.w X.K X.mg X.base CX k f fd ps sp) (hr : Room (k + 1) X.A) (hg : Gl X x) (hm : X.mg x = some (.ref C)) (hb : Binds X.K fd ps ds) (hd : Vals dvs ds) (hx : ∀ σ, PassesAt CX X σ (E σ)) (ha : PA X (e :: es) t)
    (hdb : (x == ("__debug__" : Str)) = false := by decide) (he : starEach (e :: es) X.env = (false, eval e X.env) :: starEach es X.env := by rfl) (hpl : (backTo pos (starEach es X.env)).any (·.1) = false := by rfl) :
    PE X (.Call (.Name x p) (e :: es) [] pos) (tMakeS C sp dvs E t) := by
  refine ⟨fun pins s σ H Q I h => wpAny_Call_Name_kw (ld_glob I hg hm ?_ hdb)⟩
  refine PySem.W.callWith_K (h₀ := X.base) I.ok.mod.kin M.kp (thn (ha.run pos pins s σ H _ I h) fun us s1 ⟨vs, H1, I1, r, q⟩ => ⟨I1.kIn, ?_⟩) he hpl
  have g0 : H1 (s1.heap.objs.size + 1) = none := I1.hok.fresh (Nat.le_succ _)
  have g1 : H1 s1.heap.objs.size = none := I1.hok.fresh (Nat.le_refl _)
  have todo := q _ _ g0 g1 (Nat.ne_of_lt (Nat.lt_succ_self _))
  have J := Inv.made (C := C) I1
  have rr : Vals (V.ref (s1.heap.objs.size + 1) :: (vs ++ dvs)) (Value.ref (s1.heap.objs.size + 1) :: (us ++ ds)) := .cons rfl (r.append hd)
  have many : (Value.ref (s1.heap.objs.size + 1) :: us ++ ds).length = ps.length := (rr.length.symm.trans (F.len _ _ _ _ todo))
  refine wpAny_call (make_map (f := f) I1.kIn M.makes M.init (beq_iff_eq.mp M.fn) (codeAny_mono (F.run _ X.stack _ _ ⟨_, []⟩ _ _ _ (E σ) (hr.make C us []) (J.env0.make C us []) (hb _ (Value.ref (s1.heap.objs.size + 1) :: us) J.kIn many) rr todo) fun
    | .error er, s2, z => hx σ pins _ _ er s2 J z
    | .ok (.ret u), s2, z => ?_
    | .ok .next, _, z => False.elim z
    | .ok .brk, _, z => False.elim z
    | .ok .cont, _, z => False.elim z))
  obtain ⟨v, H3, J3, rv, rfl, z3⟩ := J.after z
  exact ⟨rv, .ref (s1.heap.objs.size + 1), H3, J3, rfl, z3⟩
end
end My

set_option Elab.async false
set_option linter.all false
set_option maxRecDepth 100000
set_option maxHeartbeats 4000000
/-! ### operators, in, len, list of instances of an own class that define them -/
namespace My
open PySem PySem.Spec PyProof.Rows L2
section
variable {X : Cx} {CX : CXT} {pins : List (Addr × Obj)} {σ : L2.St} {H : Hp} {s : Shared} {C g a : Addr} {fd : FuncData} {ps : List Str} {sp : Sp} {E : XK} {k : Nat} {A1 : Around}
theorem inst_of {dx : Addr} {fs : List (Str × V)} (I : Inv X pins σ H s) (ha : H a = some (.ins C dx fs)) : ∃ ox od, PySem.W.InstAt s.heap a ox C (some od) := by
  obtain ⟨mA, J, _⟩ := ins_get I.hok ha
  obtain ⟨od, J', _⟩ := J.look
  exact ⟨_, od, J'⟩
theorem env_under (sb : Sub X k A1) (I : Inv X pins σ H s) : Env0 X.prog X.w X.K X.mg X.base A1 X.stack s H := by
  obtain ⟨f1, f2, f3, f4, f5, f6, f7, f8⟩ := I.env0
  exact ⟨(sb.fr).trans f1, f2, f3, f4, f5, f6, f7, f8⟩
/-- a def of the class runs somewhere below the body -/
theorem run_under {Q : VK} {us : List Value} {vs : List V} (F : FnOk X.prog X.w X.K X.mg X.base CX k g fd ps sp) (sb : Sub X k A1) (hb : Binds X.K fd ps []) (hx : Passes CX X E) (I : Inv X pins σ H s) (r : Vals vs us) (h : sp vs H Q E) :
    wpAny (model X.prog X.w) A1 (call (.ref g) us) (EP X pins σ Q) X.xe s := by
  have len := F.len _ _ _ _ h
  have bnd := hb s us I.kIn (by rw [List.append_nil, ← r.length]; exact len)
  rw [List.append_nil] at bnd
  refine wpAny_call (codeAny_mono (F.run A1 X.stack s H ⟨us, []⟩ us vs Q E sb.room (env_under sb I) bnd r h) ?_)
  rintro (e | fl) s' z
  · exact hx pins σ H s e s' I z
  · cases fl <;> first | exact I.after z | exact z.elim
/-- x op y, both instances of the class at C -/
def rBinO (C : Addr) (sp : Sp) (E : XK) : R2 := fun x y H Q => ∃ (a dx : Addr) (fs : List (Str × V)) (b dy : Addr) (gs : List (Str × V)), x = .ref a ∧ y = .ref b ∧ H a = some (.ins C dx fs) ∧ H b = some (.ins C dy gs) ∧ sp [.ref a, .ref b] H Q E
/-- what stands of an operator's def -/
structure BinC (K : PySem.W.Frag) (C g : Addr) (op : Operator) : Prop where
  one : PySem.W.selfFirst K C = true
  at_ : PySem.W.findIn K (.ref C) (PySem.dunder op.info.2) = some (some (.ref g))
  fn : PySem.W.isFn K (.ref g) = true
theorem sub_here (hr : Room k X.A) : Sub X k X.A := ⟨hr, rfl⟩
theorem op_binO {op : Operator} (c : BinC X.K C g op) (F : FnOk X.prog X.w X.K X.mg X.base CX k g fd ps sp) (hb : Binds X.K fd ps []) (hr : Room k X.A) (hx : Passes CX X E) : OpR X (binaryOp op) (rBinO C sp E) := by
  rintro pins s σ H x y v u Q I rx ry ⟨a, dx, fs, b, dy, gs, rfl, rfl, ha, hb', q⟩
  cases rx
  cases ry
  obtain ⟨ox, od, J⟩ := inst_of I ha
  obtain ⟨oy, ody, J'⟩ := inst_of I hb'
  obtain ⟨m, hF⟩ := I.fr
  refine PySem.W.binop_K hF I.ok.mod.kin J J'.type c.one c.at_ c.fn ?_
  refine thn (run_under (us := [.ref a, .ref b]) (vs := [.ref a, .ref b]) F (sub_here hr) hb hx I (.cons rfl (.cons rfl .nil)) q) ?_
  rintro w s' ⟨z, H', I', rz, qz⟩
  exact SlX.cmpback rz ⟨z, H', I', rz, qz⟩
/-- y in x, x an instance of the class at C: its __contains__ gives a bool -/
def rInO (C : Addr) (sp : Sp) (E : XK) (neg : Bool) : R2 := fun y x H Q => ∃ (a dx : Addr) (fs : List (Str × V)), x = .ref a ∧ H a = some (.ins C dx fs) ∧ sp [.ref a, y] H (fun v H' => ∃ b, v = .bl b ∧ Q (.bl (if neg then !b else b)) H') E
structure InC (K : PySem.W.Frag) (C g : Addr) : Prop where
  at_ : PySem.W.findIn K (.ref C) "__contains__" = some (some (.ref g))
  fn : PySem.W.isFn K (.ref g) = true
theorem op_inO (c : InC X.K C g) (F : FnOk X.prog X.w X.K X.mg X.base CX k g fd ps sp) (hb : Binds X.K fd ps []) (hr : Room k X.A) (hx : Passes CX X E) : OpR X (compareOp .In) (rInO C sp E false) := by
  rintro pins s σ H y x u v Q I ry rx ⟨a, dx, fs, rfl, ha, q⟩
  cases rx
  obtain ⟨ox, od, J⟩ := inst_of I ha
  obtain ⟨m, hF⟩ := I.fr
  refine PySem.W.in_K hF I.ok.mod.kin J c.at_ c.fn ?_
  refine thn (run_under (us := [.ref a, u]) (vs := [.ref a, y]) F (sub_here hr) hb hx I (.cons rfl (.cons ry .nil)) q) ?_
  rintro w s' ⟨z, H', I', rz, b, rfl, qz⟩
  cases rz
  exact wpAny_pure ⟨.bl b, H', I', rfl, qz⟩
theorem op_notInO (c : InC X.K C g) (F : FnOk X.prog X.w X.K X.mg X.base CX k g fd ps sp) (hb : Binds X.K fd ps []) (hr : Room k X.A) (hx : Passes CX X E) : OpR X (compareOp .NotIn) (rInO C sp E true) := by
  rintro pins s σ H y x u v Q I ry rx ⟨a, dx, fs, rfl, ha, q⟩
  cases rx
  obtain ⟨ox, od, J⟩ := inst_of I ha
  obtain ⟨m, hF⟩ := I.fr
  refine PySem.W.notIn_K hF I.ok.mod.kin J c.at_ c.fn ?_
  refine thn (run_under (us := [.ref a, u]) (vs := [.ref a, y]) F (sub_here hr) hb hx I (.cons rfl (.cons ry .nil)) q) ?_
  rintro w s' ⟨z, H', I', rz, b, rfl, qz⟩
  cases rz
  exact wpAny_pure ⟨.bl (!b), H', I', rfl, qz⟩
/-- len(x) -/
structure LenC (K : PySem.W.Frag) (C g : Addr) : Prop where
  at_ : PySem.W.findIn K (.ref C) "__len__" = some (some (.ref g))
  fn : PySem.W.isFn K (.ref g) = true
theorem len_under {R : Value → Shared → Prop} {Q1 : Nat → Hp → Prop} {dx : Addr} {fs : List (Str × V)} (c : LenC X.K C g) (F : FnOk X.prog X.w X.K X.mg X.base CX k g fd ps sp) (hb : Binds X.K fd ps []) (sb : Sub X (k + 1) A1) (hx : Passes CX X E) (I : Inv X pins σ H s)
    (ha : H a = some (.ins C dx fs)) (h : sp [.ref a] H (fun v H' => ∃ n : Nat, v = .int n ∧ n ≤ sizeLine ∧ Q1 n H') E) (hR : ∀ (n : Nat) H' s' t, n ≤ sizeLine → Inv X pins σ H' s' → Q1 n H' → R (.int n t) s') : wpAny (model X.prog X.w) A1 (call (.builtin "len") [.ref a]) R X.xe s := by
  obtain ⟨ox, od, J⟩ := inst_of I ha
  refine Calls.call_function_entry kind_len plain_len entry_len (args_len1 _) ?_
  unfold Builtin.«len»
  refine wpAny_bind (m := oneArg "len" _) (wpAny_pure ?_)
  refine wpAny_bind (PySem.W.special_fn I.kIn J c.at_ (beq_iff_eq.mp c.fn) ?_)
  refine thn (run_under (us := [.ref a]) (vs := [.ref a]) F sb.in1 hb hx I (.cons rfl .nil) h) ?_
  rintro w s' ⟨z, H', I', rz, n, rfl, hn, hq⟩
  obtain ⟨t, rfl⟩ := rz
  have h63 : ((n : Int)) < 2 ^ 63 := by
    rw [sizeLine_eq] at hn
    omega
  refine wpAny_bind (wpAny_holding (wpAny_pure ?_))
  refine wpAny_bind (wpAny_letGo ?_)
  refine wpAny_ite_false (decide_eq_false (show ¬ ((n : Int) < 0) by omega)) ?_
  refine wpAny_ite_false (decide_eq_false (show ¬ ((n : Int) ≥ 2 ^ 63) by omega)) ?_
  exact wpAny_bind (wpAny_mkInt (wpAny_pure ⟨_, rfl, hR n H' _ _ hn (I'.tok _) hq⟩))
def rLenO (C : Addr) (sp : Sp) (E : XK) : List V → Hp → VK → Prop := fun xs H Q => ∃ (a dx : Addr) (fs : List (Str × V)), xs = [.ref a] ∧ H a = some (.ins C dx fs) ∧ sp [.ref a] H (fun v H' => ∃ n : Nat, v = .int n ∧ n ≤ sizeLine ∧ Q (.int n) H') E
theorem call_lenO (c : LenC X.K C g) (F : FnOk X.prog X.w X.K X.mg X.base CX k g fd ps sp) (hb : Binds X.K fd ps []) (hr : Room (k + 1) X.A) (hx : Passes CX X E) : CallR X (.builtin "len") (rLenO C sp E) := by
  rintro pins s σ H xs us Q I r ⟨a, dx, fs, rfl, ha, q⟩
  obtain ⟨u, rfl, ru⟩ := r.one
  cases ru
  exact len_under (Q1 := fun n H' => Q (.int n) H') c F hb (sub_here hr) hx I ha q fun n H' s' t _ I' hq => ⟨.int n, H', I', ⟨t, rfl⟩, hq⟩
/-- something that is no more looked at -/
def junk (q : Addr) : HO := .ext fun h => ∃ o, h.get? q = some o
theorem junk_ok {P : Program} {w : World} {H : Hp} {h : Heap} {q : Addr} {o : Obj} (e : h.get? q = some o) : ObjOk P w H h q (junk q) := ⟨⟨_, e⟩, ⟨_, e⟩, fun _ _ ⟨u, z⟩ k => ⟨u, k _ z⟩⟩
/-- the class's __iter__ gives iter(l) of a list l, and it has a __len__ -/
structure IterC (K : PySem.W.Frag) (C gi gl : Addr) : Prop where
  it : PySem.W.findIn K (.ref C) "__iter__" = some (some (.ref gi))
  itF : PySem.W.isFn K (.ref gi) = true
  ln : LenC K C gl
/-- list(x) -/
def rListO (K : PySem.W.Frag) (C : Addr) (si sl : Sp) (E : XK) : List V → Hp → VK → Prop := fun xs H Q => ∃ (a dx : Addr) (fs : List (Str × V)), xs = [.ref a] ∧ H a = some (.ins C dx fs) ∧ ∀ q, H q = none →
  si [.ref a] (upd H q (.lst [])) (fun v H1 => ∃ (l it : Addr) (zs : List V), v = .ref it ∧ H1 a = some (.ins C dx fs) ∧ H1 it = some (ItO l it 0) ∧ SqL K H1 l zs ∧ l ≠ q ∧ l ≠ it ∧ H1 q = some (.lst []) ∧
    sl [.ref a] H1 (fun v H2 => ∃ n : Nat, v = .int n ∧ n ≤ sizeLine ∧ H2 it = some (ItO l it 0) ∧ SqL K H2 l zs ∧ H2 q = some (.lst []) ∧ Q (.ref q) (upd (upd H2 it (junk it)) q (.lst zs))) E) E
/-- .. where nothing is raised -/
theorem run_under0 {Q : VK} {us : List Value} {vs : List V} {Ex : Value → Shared → Prop} (F : FnOk X.prog X.w X.K X.mg X.base CX0 k g fd ps sp) (sb : Sub X k A1) (hb : Binds X.K fd ps []) (I : Inv X pins σ H s) (r : Vals vs us) (h : sp vs H Q E) :
    wpAny (model X.prog X.w) A1 (call (.ref g) us) (EP X pins σ Q) Ex s := by
  have len := F.len _ _ _ _ h
  have bnd := hb s us I.kIn (by rw [List.append_nil, ← r.length]; exact len)
  rw [List.append_nil] at bnd
  refine wpAny_call (codeAny_mono (F.run A1 X.stack s H ⟨us, []⟩ us vs Q E sb.room (env_under sb I) bnd r h) ?_)
  rintro (e | fl) s' z
  · exact False.elim z
  · cases fl <;> first | exact I.after z | exact z.elim
theorem len_under0 {R : Value → Shared → Prop} {Ex : Value → Shared → Prop} {Q1 : Nat → Hp → Prop} {dx : Addr} {fs : List (Str × V)} (c : LenC X.K C g) (F : FnOk X.prog X.w X.K X.mg X.base CX0 k g fd ps sp) (hb : Binds X.K fd ps []) (sb : Sub X (k + 1) A1) (I : Inv X pins σ H s)
    (ha : H a = some (.ins C dx fs)) (h : sp [.ref a] H (fun v H' => ∃ n : Nat, v = .int n ∧ n ≤ sizeLine ∧ Q1 n H') E) (hR : ∀ (n : Nat) H' s' t, n ≤ sizeLine → Inv X pins σ H' s' → Q1 n H' → R (.int n t) s') : wpAny (model X.prog X.w) A1 (call (.builtin "len") [.ref a]) R Ex s := by
  obtain ⟨ox, od, J⟩ := inst_of I ha
  refine Calls.call_function_entry kind_len plain_len entry_len (args_len1 _) ?_
  unfold Builtin.«len»
  refine wpAny_bind (m := oneArg "len" _) (wpAny_pure ?_)
  refine wpAny_bind (PySem.W.special_fn I.kIn J c.at_ (beq_iff_eq.mp c.fn) ?_)
  refine thn (run_under0 (us := [.ref a]) (vs := [.ref a]) F sb.in1 hb I (.cons rfl .nil) h) ?_
  rintro w s' ⟨z, H', I', rz, n, rfl, hn, hq⟩
  obtain ⟨t, rfl⟩ := rz
  have h63 : ((n : Int)) < 2 ^ 63 := by
    rw [sizeLine_eq] at hn
    omega
  refine wpAny_bind (wpAny_holding (wpAny_pure ?_))
  refine wpAny_bind (wpAny_letGo ?_)
  refine wpAny_ite_false (decide_eq_false (show ¬ ((n : Int) < 0) by omega)) ?_
  refine wpAny_ite_false (decide_eq_false (show ¬ ((n : Int) ≥ 2 ^ 63) by omega)) ?_
  exact wpAny_bind (wpAny_mkInt (wpAny_pure ⟨_, rfl, hR n H' _ _ hn (I'.tok _) hq⟩))
theorem hint_own {Q : Bool → Shared → Prop} {Ex : Value → Shared → Prop} {Q1 : Nat → Hp → Prop} {dx : Addr} {fs : List (Str × V)} (c : LenC X.K C g) (F : FnOk X.prog X.w X.K X.mg X.base CX0 k g fd ps sp) (hb : Binds X.K fd ps []) (sb : Sub X (k + 1) A1) (I : Inv X pins σ H s)
    (ha : H a = some (.ins C dx fs)) (h : sp [.ref a] H (fun v H' => ∃ n : Nat, v = .int n ∧ n ≤ sizeLine ∧ Q1 n H') E) (hR : ∀ b n H' s', Inv X pins σ H' s' → Q1 n H' → Q b s') : wpAny (model X.prog X.w) A1 (Builtin.List.listLengthHint (.ref a)) Q Ex s := by
  obtain ⟨ox, od, J⟩ := inst_of I ha
  unfold Builtin.List.listLengthHint
  refine wpAny_bind (wpAny_bind (J.type.here ((PySem.W.looks_findIn I.kIn c.at_).here ?_)))
  refine PySem.W.KFB.if_not rfl ?_
  refine PySem.W.KFB.if_so rfl ?_
  refine wpAny_bind (wpAny_rule ?_)
  refine wpAny_bind (wpAny_attempt (len_under0 c F hb sb I ha h ?_))
  intro n H' s' t hn I' hq
  show wpAny _ _ (pure (some (n : Int)) >>= _) _ _ _
  refine wpAny_bind (wpAny_pure ?_)
  have hl : Builtin.List.listTooLong ((n : Int).toNat) = false := by
    rw [Int.toNat_natCast]; exact notLongL hn
  refine PySem.W.KFB.if_not hl ?_
  exact wpAny_pure (hR _ n H' s' I' hq)
/-! ### the list's iterator, drawn to its end -/
theorem py_item {it l : Addr} {i : Nat} {items : Array Value} {v : Value} {prog : Program} {w : World} {Q : Option Value → Shared → Prop} {Ex : Value → Shared → Prop} (ho : s.heap.get? it = some (GNX.itObj l i)) (hl : s.heap.IsList l items) (hv : items[i]? = some v)
    (hQ : ∀ h', h'.get? it = some (GNX.itObj l (i + 1)) → (∀ b o, b ≠ it → s.heap.get? b = some o → h'.get? b = some o) → Q (some v) { s with heap := h' }) : wpAny (model prog w) A1 (pyNext (.ref it)) Q Ex s := by
  have hT : s.TypeIs (.ref it) "list_iterator" := ⟨_, ho, rfl⟩
  unfold pyNext
  refine wpAny_bind (wpAny_attempt (wpAny_callSpecial?_slot (name := Str.ofString "__next__") hT slot_listiter_next (wpAny_call_entry slot_listiter_next hT entry_listiter_next (GNX.next_item ho hl hv ?_) (args_listiter_next _))))
  intro h' e sb
  exact wpAny_pure (hQ h' e fun b o hb eb => (sb.2 b hb).trans eb)
theorem py_end {it l : Addr} {i : Nat} {items : Array Value} {prog : Program} {w : World} {Q : Option Value → Shared → Prop} {Ex : Value → Shared → Prop} (hh : A1.handled = none) (ho : s.heap.get? it = some (GNX.itObj l i)) (hl : s.heap.IsList l items) (hv : items[i]? = none)
    (hQ : ∀ h', h'.get? it = some (GNX.itEnd i) → (∀ b o, b ≠ it → s.heap.get? b = some o → h'.get? b = some o) → Q none { s with heap := h' }) : wpAny (model prog w) A1 (pyNext (.ref it)) Q Ex s := by
  have hT : s.TypeIs (.ref it) "list_iterator" := ⟨_, ho, rfl⟩
  unfold pyNext
  refine wpAny_bind (wpAny_attempt (wpAny_callSpecial?_slot (name := Str.ofString "__next__") hT slot_listiter_next (wpAny_call_entry slot_listiter_next hT entry_listiter_next (GNX.next_end hh ho hl hv ?_) (args_listiter_next _))))
  intro h1 h' e vs e1 sb k1 ne he hv'
  refine wpAny_bind (wpAny_isInstance (T := "StopIteration") (b := true) ⟨_, he, rfl⟩ PySem.isSubtype_stop ?_)
  exact wpAny_pure (hQ h' (k1 _ _ e1) fun b o hb eb => k1 _ _ ((sb.2 b hb).trans eb))
theorem same_upd {H : Hp} {q : Addr} {o : HO} (e : H q = some o) : upd H q o = H := by
  funext b
  by_cases z : b = q
  · rw [z, upd_same, e]
  · rw [upd_ne z]
theorem take_next' {α : Type} {xs : List α} {i : Nat} {x : α} (h : xs[i]? = some x) : xs.take (i + 1) = xs.take i ++ [x] := by
  rw [List.take_add_one, h]; rfl
/-- the loop that fills the list at q -/
theorem drain {q l it : Addr} {zs : List V} {F : Hp} {R : Result → Shared → Prop} (hh : A1.in1.handled = none) (lit : l ≠ it) (lq : l ≠ q) (hne : it ≠ q) (hdone : ∀ s', Inv X pins σ F s' → R (.ok (.ret .none)) s') :
    ∀ (n i : Nat) (H1 : Hp) (s1 : Shared), zs.length - i = n → i ≤ zs.length → Inv X pins σ H1 s1 → H1 it = some (ItO l it i) → SqL X.K H1 l zs → H1 q = some (.lst (zs.take i)) → upd (upd H1 it (junk it)) q (.lst zs) = F →
      codeAny (model X.prog X.w) A1 (.builtin "list.extend.loop" ⟨[.ref q, .ref it, .none], []⟩) R s1 := by
  intro n
  induction n with
  | zero =>
    intro i H1 s1 hn hi I hit hl hq hF
    obtain ⟨its, rv, pl, hz⟩ := I.list hl
    have hlen := rv.length
    have nope : its.toArray[i]? = none := by
      rw [List.getElem?_toArray]
      exact List.getElem?_eq_none (by omega)
    refine codeAny_builtin PySem.F.entry_extend_loop ?_
    rw [Around.under_plainId PySem.F.plain_extend_loop _]
    refine wpAny_bind (m := pyNext (.ref it)) (py_end hh (itO_get I hit) pl.isList nope fun h' he hk => ?_)
    have J : Inv X pins σ (upd H1 it (junk it)) { s1 with heap := h' } := I.write (t' := s1.toks) (x := it) (e := it) (by rw [hit]; exact True.intro) (.inl rfl) (fun b u hb e => hk b u hb e) ⟨_, he⟩ (junk_ok he)
    have e : upd H1 it (junk it) = F := by
      rw [← hF]
      refine (same_upd ?_).symm
      rw [upd_ne hne.symm, hq, List.take_of_length_le (by omega)]
    rw [e] at J
    exact wpAny_pure (hdone _ J)
  | succ n ih =>
    intro i H1 s1 hn hi I hit hl hq hF
    obtain ⟨its, rv, pl, hz⟩ := I.list hl
    have hlen := rv.length
    have hx : zs[i]? = some zs[i] := List.getElem?_eq_getElem (by omega)
    obtain ⟨u, hu, ru⟩ := rv.get hx
    refine codeAny_builtin PySem.F.entry_extend_loop ?_
    rw [Around.under_plainId PySem.F.plain_extend_loop _]
    refine wpAny_bind (m := pyNext (.ref it)) (py_item (itO_get I hit) pl.isList (v := u) (by simpa using hu) fun h' he hk => ?_)
    have J : Inv X pins σ (upd H1 it (ItO l it (i + 1))) { s1 with heap := h' } := I.write (t' := s1.toks) (x := it) (e := it) (by rw [hit]; exact True.intro) (.inl rfl) (fun b u hb e => hk b u hb e) ⟨_, he⟩ (itO_ok he)
    have hq' : (upd H1 it (ItO l it (i + 1))) q = some (.lst (zs.take i)) := by rw [upd_ne hne.symm]; exact hq
    obtain ⟨_, ys, c, r2, hl2, e2⟩ := J.lstM hq'
    have hy : ys.length = i := by rw [← hl2, List.length_take]; omega
    refine wpAny_bind (m := updateSeq q (·.push u)) (wpAny_updateSeq e2 rfl (wpAny_pure ⟨plainId_quiet PySem.F.plain_extend_loop _, ?_⟩) (by rw [List.size_toArray]; omega) (by rw [Array.size_push, List.size_toArray]; omega))
    have J2 := J.lset (f := (·.push u)) (its' := ys ++ [u]) (ys := zs.take (i + 1)) (t' := s1.toks) hq' e2 (by simp) (by rw [take_next' hx]; exact r2.append (.cons ru .nil)) (by rw [List.length_take]; omega)
    refine ih (i + 1) _ _ (by omega) (by omega) J2 ?_ ?_ upd_same ?_
    · rw [upd_ne hne]; exact upd_same
    · exact (((Kp.refl [it, q] H1).put (by simp)).put (by simp)).ls (by simp [lit, lq]) hl
    · rw [← hF]
      funext b
      by_cases z : b = q
      · rw [z, upd_same, upd_same]
      · rw [upd_ne z, upd_ne z]
        by_cases y : b = it
        · rw [y, upd_same, upd_same]
        · rw [upd_ne y, upd_ne y, upd_ne z, upd_ne y]
theorem call_listO {gi gl : Addr} {fdi fdl : FuncData} {psi psl : List Str} {si sl : Sp} {ki kl : Nat} (c : IterC X.K C gi gl) (Fi : FnOk X.prog X.w X.K X.mg X.base CX0 ki gi fdi psi si) (bi : Binds X.K fdi psi []) (Fl : FnOk X.prog X.w X.K X.mg X.base CX0 kl gl fdl psl sl) (bl : Binds X.K fdl psl [])
    (hr : Room (max ki (kl + 1) + 2) X.A) (hcalm : X.calm = true := by rfl) : CallR X (.type "list") (rListO X.K C si sl E) := by
  rintro pins s σ H xs us Q I rv ⟨a, dx, fs, rfl, ha, hq⟩
  obtain ⟨u, rfl, ru⟩ := rv.one
  cases ru
  have sb0 : Sub X (max ki (kl + 1)) X.A.in1.in1 := (sub_here hr).in1.in1
  have hh : X.A.handled = none := I.ok.hd hcalm
  refine callType_codes (Q₁ := fun obj s₁ => obj = .ref s.heap.objs.size ∧ s₁ = { s with heap := s.heap.push { cls := .type "list", data := .seq #[] } }) PySem.F.called_list (PySem.F.typeCall_list_1 _) PySem.F.entry_list_init (code_list_new _ ⟨rfl, rfl⟩) ?_
  rintro obj s₁ ⟨rfl, rfl⟩
  have hS : (s.heap.push { cls := .type "list", data := .seq #[] }).get? s.heap.objs.size = some { cls := .type "list", data := .seq #[] } := Heap.get?_push_size _ rfl
  refine ⟨⟨_, hS, rfl⟩, PySem.F.args_list_init_2 _ _, ?_⟩
  have fr : H s.heap.objs.size = none := I.hok.fresh (Nat.le_refl _)
  have todo := hq _ fr
  generalize hqq : s.heap.objs.size = q at *
  have I1 : Inv X pins σ (upd H q (.lst [])) { s with heap := s.heap.push { cls := .type "list", data := .seq #[] } } := by
    rw [← hqq]
    exact I.lnew (its := []) (t' := s.toks) .nil (Nat.zero_le _)
  show wpAny _ _ (Builtin.List.listItems (.ref q) >>= fun old => Builtin.List.listUpdate (.ref q) (fun _ => #[]) >>= fun _ => letGo old.toList.reverse >>= fun _ => Builtin.List.listExtendWith (.ref q) (.ref a) .none) _ _ _
  refine wpAny_bind ?_
  unfold Builtin.List.listItems
  refine wpAny_bind (wpAny_seqItems hS rfl (wpAny_pure ?_))
  refine wpAny_bind (m := updateSeq q fun _ => #[]) (wpAny_updateSeq hS rfl ?_)
  have I2 := I1.lset (f := fun _ => #[]) (its := []) (its' := []) (ys := []) (t' := s.toks) upd_same hS rfl .nil (Nat.zero_le _)
  rw [upd_upd] at I2
  refine wpAny_bind (wpAny_letGo ?_)
  have ha2 : upd H q (.lst []) a = some (.ins C dx fs) := by rw [upd_ne (ne_of_none ha fr)]; exact ha
  obtain ⟨ox, od, J⟩ := inst_of I2 ha2
  obtain ⟨m0, hF⟩ := I2.fr
  have naq : a ≠ q := ne_of_none ha fr
  unfold Builtin.List.listExtendWith
  refine wpAny_bind (J.type.here ?_)
  have h1 : Builtin.List.listSameRef (.ref q) (.ref a) = false := beq_eq_false_iff_ne.mpr naq.symm
  refine PySem.W.KFB.if_not (by rw [h1]; rfl) ?_
  refine wpAny_bind (PySem.W.owit_iter hF I2.ok.mod.kin J c.it c.itF ?_)
  refine thn (run_under0 (us := [.ref a]) (vs := [.ref a]) Fi (sb0.mono (Nat.le_max_left _ _)) bi I2 (.cons rfl .nil) todo) ?_
  rintro w s2 ⟨z, H1, I3, rz, l, it, zs, rfl, ha3, hit, hl, lq, lit, hq3, hsl⟩
  cases rz
  unfold PySem.W.OwitIt
  have hT : s2.TypeIs (.ref it) "list_iterator" := ⟨_, itO_get I3 hit, rfl⟩
  refine wpAny_specialOf (name := Str.ofString "__next__") hT slot_listiter_next.lookup ?_
  refine wpAny_bind (wpAny_holding (hint_own c.ln Fl bl (sb0.mono (Nat.le_max_right _ _)) I3 ha3 hsl ?_))
  rintro room n H2 s3 I4 ⟨hit4, hl4, hq4, qend⟩
  have hne : it ≠ q := ne_of hit4 hq4 (fun z => by cases z)
  have fin : ∀ s4, Inv X pins σ H2 s4 → codeAny (model X.prog X.w) X.A.in1 (.builtin "list.extend.loop" ⟨[.ref q, .ref it, .none], []⟩) (wants (fun r s₂ => r = .none ∧ EP X pins σ Q (.ref q) s₂) X.xe) s4 := fun s4 I5 =>
    drain (A1 := X.A.in1) (F := upd (upd H2 it (junk it)) q (.lst zs)) (by simp [hh]) lit lq hne (fun s' I6 => ⟨rfl, .ref q, _, I6, rfl, qend⟩) _ 0 H2 s4 rfl (Nat.zero_le _) I5 hit4 hl4 (by rw [List.take_zero]; exact hq4) rfl
  refine wpAny_ite_split (fun _ => ?_) (fun _ => wpAny_pure ⟨plainId_quiet PySem.F.plain_extend_loop _, fin s3 I4⟩)
  refine wpAny_bind (wpAny_rule (wpAny_bind ?_))
  obtain ⟨_, its, k4, r4, hl5, e4⟩ := I4.lstM hq4
  cases r4
  refine wpAny_bind (m := updateSeq q (·.push .none)) (wpAny_updateSeq e4 rfl ?_)
  have I5 := I4.lset (f := (·.push Value.none)) (its' := [Value.none]) (ys := [.non]) (t' := s3.toks) hq4 e4 (by simp) (.cons rfl .nil) (by rw [List.length_singleton, sizeLine_eq]; decide)
  obtain ⟨_, its5, k5, r5, hl6, e5⟩ := I5.lstM upd_same
  obtain ⟨u5, rfl, ru5⟩ := r5.one
  refine wpAny_updateSeq (a := q) (f := (·.pop)) e5 rfl ?_ (by show 1 ≤ sizeLine; rw [sizeLine_eq]; decide) (by show 0 ≤ sizeLine + 1; exact Nat.zero_le _)
  have I6 := I5.lset (f := (·.pop)) (its := [u5]) (its' := []) (ys := []) (t' := s3.toks) upd_same e5 (by rfl) .nil (Nat.zero_le _)
  rw [upd_upd, same_upd hq4] at I6
  exact wpAny_pure ⟨plainId_quiet PySem.F.plain_extend_loop _, fin _ I6⟩
end
/-! ### a static method, called by its class's name -/
structure StaC (K : PySem.W.Frag) (C : Addr) (mc : Value) (m : Str) (p g : Addr) : Prop where
  rd : PySem.W.readsIn K C mc = true
  ga : PySem.W.specialIn K (.ref C) "__getattribute__" = some (some (.builtin "type.__getattribute__"))
  at_ : PySem.W.findCls K (.ref C) mc m = some (.get (.builtin "staticmethod.__get__") (.ref p) .none (.ref C))
  rc : ∃ rest, PySem.W.recIn K p "staticmethod" = some (.ref g :: rest)
  kp : PySem.W.keepIn K (.ref g) = true
def tSta (C : Addr) (sp : Sp) (dvs : List V) (E : XK) (ta : TE) (t : TA) : TE := fun σ H Q => ta σ H fun x H1 => x = .ref C ∧ t σ H1 fun vs H2 => sp (vs ++ dvs) H2 Q E
section
variable {X : Cx} {CX : CXT} {C p g : Addr} {mc : Value} {m : Str} {fd : FuncData} {ps : List Str} {sp : Sp} {E : XK} {k : Nat} {o e : Expr} {es : List Expr} {ta : TE} {t : TA} {apos pos : Pos} {dvs : List V} {ds : List Value}
theorem pe_sta {pl : Sem Bool} (he : PE X o ta) (c : StaC X.K C mc m p g) (F : FnOk X.prog X.w X.K X.mg X.base CX k g fd ps sp) (hr : Room k X.A) (hb : Binds X.K fd ps ds) (hd : Vals dvs ds) (hx : Passes CX X E) (ha : PA X (e :: es) t)
    (hst : starEach (e :: es) X.env = (false, eval e X.env) :: starEach es X.env := by rfl) (hpl : (backTo pos (starEach es X.env)).any (·.1) = false := by rfl)
    (ht : eval (.Call (.Attribute o m apos) (e :: es) [] pos) X.env = (eval o X.env >>= fun ov => standAt apos.atName >>= fun _ => holding [ov] (getMethod ov m pl) >>= fun fr => callWith pos fr.1 fr.2 (backTo pos (starEach (e :: es) X.env)) (backToKw pos (keywordEach [] X.env))) := by rfl) :
    PE X (.Call (.Attribute o m apos) (e :: es) [] pos) (tSta C sp dvs E ta t) := by
  refine ⟨fun pins s σ H Q I h => ?_⟩
  refine PySem.W.methodCall_KW (pl := pl) (thn (he.run pins s σ H _ I h) ?_) ht
  rintro u s1 ⟨x, H1, I1, rx, rfl, q⟩
  cases rx
  obtain ⟨rest, hp⟩ := c.rc
  refine PySem.W.method_cls I1.kIn c.ga (PySem.W.cls_bind I1.kIn c.rd c.at_ (wpAny_call ?_))
  refine PySem.W.sm_get (s := { s1 with toks := s1.toks + 1 }) I1.kIn hp (PySem.W.handed_on rfl ?_)
  refine PySem.W.callWith_K (first := []) (h₀ := X.base) I1.ok.mod.kin c.kp (thn (ha.run pos pins _ σ H1 _ (I1.tok _) q) fun us s2 ⟨vs, H2, I2, r, q2⟩ => ⟨I2.kIn, ?_⟩) hst hpl
  exact run_fn F hr hb hd hx I2 r q2
/-- x in t, t a tuple, of data of any depth -/
def rInT (K : PySem.W.Frag) (neg : Bool) : R2 := fun x y H Q => ∃ d ds, Dp K H x d ∧ Dp K H y (.tuple ds) ∧ SeqAt.shaped d = true ∧ SeqAt.shaped (.tuple ds) = true ∧ Q (.bl (if neg then !(ds.any fun z => PyData.eqv z d) else ds.any fun z => PyData.eqv z d)) H
theorem op_inT (hu : X.A.units + 65 < cLine) : OpR X (compareOp .In) (rInT X.K false) := by
  rintro pins s σ H x y v u Q I rx ry ⟨d, ds, hd, he, sd, se, q⟩
  obtain ⟨as, r1⟩ := Dp.reads I d x v hd rx
  obtain ⟨bs, r2⟩ := Dp.reads I (.tuple ds) y u he ry
  exact SeqAt.in_tuple_reads r2 r1 (SeqAt.canLay_of_shaped se) (SeqAt.canLay_of_shaped sd) (room_in_shaped sd hu) ⟨.bl _, H, I, rfl, q⟩
theorem op_notInT (hu : X.A.units + 65 < cLine) : OpR X (compareOp .NotIn) (rInT X.K true) := by
  rintro pins s σ H x y v u Q I rx ry ⟨d, ds, hd, he, sd, se, q⟩
  obtain ⟨as, r1⟩ := Dp.reads I d x v hd rx
  obtain ⟨bs, r2⟩ := Dp.reads I (.tuple ds) y u he ry
  exact SeqAt.notIn_tuple_reads r2 r1 (SeqAt.canLay_of_shaped se) (SeqAt.canLay_of_shaped sd) (room_in_shaped sd hu) ⟨.bl _, H, I, rfl, q⟩
end
end My

set_option Elab.async false
set_option linter.all false
set_option maxRecDepth 100000
set_option maxHeartbeats 4000000
/-! ### defs that close over their class, and super().__init__(..) of an own error -/
namespace My
open PySem L2 NdefX
/-- a block whose activation is known -/
structure PSat (X : Cx) (c : Code) (body : List Stmt) (t : TS) : Prop where
  run : ∀ (pins : List (Addr × Obj)) (s : Shared) (σ : L2.St) (H : Hp) (D : Ends), Inv X pins σ H s → t D σ H → wpAt (model X.prog X.w) X.A c (execs body X.env) (SP X pins D) X.xe s
structure PSat1 (X : Cx) (c : Code) (st : Stmt) (t : TS) : Prop where
  run : ∀ (pins : List (Addr × Obj)) (s : Shared) (σ : L2.St) (H : Hp) (D : Ends), Inv X pins σ H s → t D σ H → wpAt (model X.prog X.w) X.A c (exec st X.env) (SP X pins D) X.xe s
theorem psat_of {X : Cx} {c : Code} {body : List Stmt} {t : TS} (h : PSs X body t) : PSat X c body t := ⟨fun pins s σ H D I q => wpAt_of_wpAny (h.run pins s σ H D I q)⟩
theorem psat_cons {X : Cx} {c : Code} {st : Stmt} {rest : List Stmt} {t u : TS} (h1 : PSat1 X c st t) (h2 : PSs X rest u) : PSat X c (st :: rest) (tSeq t u) := by
  refine ⟨fun pins s σ H D I q => ?_⟩
  refine PySem.ks_wpAt_execs_cons (wpAt_mono (h1.run pins s σ H { D with nx := u D } I q) (fun f s1 r => ?_) fun _ _ z => z)
  cases f with
  | next =>
    obtain ⟨σ', H', I', r⟩ := r
    exact wpAt_of_wpAny (h2.run pins s1 σ' H' D I' r)
  | brk => exact r
  | cont => exact r
  | ret u => exact r
/-- the words of a def that closes over its class -/
def nfOf (x qual : Str) (st : Stmt) (cc cda : Addr) : NF := ⟨x, qual, defArgs st, defBody st, defScope st, [("__class__", cc)], cda⟩
structure FunX (K : PySem.W.Frag) (x qual : Str) (st : Stmt) (f : Addr) (fd : FuncData) (cc cda D : Addr) : Prop where
  ex : ∃ (oc : Value) (od : Option Addr) (kV doc pm : Value) (an : Option Addr) (ct : Value) (osl : Array (Option Value)),
    fd = PySem.W.fnX x qual (defArgs st) (defBody st) (defScope st) [("__class__", cc)] .none kV doc pm an (.ref cda) ct ∧ K.lookup f = some ⟨oc, od, .func fd, osl⟩ ∧ PySem.W.codeIn K (.ref cda) qual = true
  cell : ∃ (cl : Value) (cld : Option Addr) (csl : Array (Option Value)), K.lookup cc = some ⟨cl, cld, .cell (some (.ref D)), csl⟩
  kp : PySem.W.keepIn K (.ref f) = true
section
variable {P : Program} {w : World} {K : PySem.W.Frag} {mg : Str → Option Value} {base : Heap}
abbrev cxX (CX : CXT) (P : Program) (w : World) (K : PySem.W.Frag) (mg : Str → Option Value) (base : Heap) (N : List Str) (x qual : Str) (st : Stmt) (cc cda f : Addr) (A : Around) (outer : List Env) (s : Shared) (H : Hp) (E : XK) : Cx := ncx CX P w K mg base N (nfOf x qual st cc cda) f A outer s H E
theorem FunX.ok {CX : CXT} {x qual : Str} {st : Stmt} {f cc cda D : Addr} {fd : FuncData} {N ps : List Str} {k : Nat} {sp : Sp} (F : FunX K x qual st f fd cc cda D) (S : NScope N ps ["__class__"] (defScope st)) (len : ∀ vs H Q E, sp vs H Q E → vs.length = ps.length)
    (hbody : ∀ (A : Around) (outer : List Env) (s : Shared) (H : Hp) (vs : List V) (Q : VK) (E : XK), Room k (A.deeper (envF (nfOf x qual st cc cda) f s.heap.objs.size)) → sp vs H Q E →
      ∃ t, PSat (cxX CX P w K mg base N x qual st cc cda f A outer s H E) (.func (defBody st) (envF (nfOf x qual st cc cda) f s.heap.objs.size)) (defBody st) t ∧ t { nx := fun _ H' => Q .non H', rt := Q } (startF N vs [some (.ref D)]) H) :
    FnOk P w K mg base CX (k + 1) f fd ps sp := by
  obtain ⟨oc, od, kV, doc, pm, an, ct, osl, rfl, lk, hcd⟩ := F.ex
  obtain ⟨cl, cld, csl, hcc⟩ := F.cell
  refine ⟨len, fun A outer s H args us vs Q E hr e0 hb r hsp => ?_⟩
  have hl := len _ _ _ _ hsp
  have KX : K.In s.heap := e0.mod.kin.keeps fun b o e => (e0.bs b o e).1
  have lim : s.heap.NoLimit := e0.mod.nolimit.keeps fun b o e => (e0.bs b o e).1
  have hcB := e0.mod.kin _ _ hcc
  have C : CellsAt (nfOf x qual st cc cda).cl ["__class__"] [some (.ref D)] s.heap H := by
    refine ⟨rfl, fun y c e => ?_, fun a b c e1 e2 => ?_, fun i y e => ?_⟩
    · have e' : (if y = ("__class__" : Str) then some cc else none) = some c := by
        rw [← e]
        show _ = List.lookup y [(("__class__" : Str), cc)]
        rw [List.lookup_cons, List.lookup_nil]
        by_cases h : y = ("__class__" : Str)
        · rw [if_pos h, beq_iff_eq.mpr h]
        · rw [if_neg h, beq_eq_false_iff_ne.mpr h]
      split at e'
      · cases e'
        exact ⟨(e0.bs _ _ hcB).2, _, _, KX _ _ hcc, rfl⟩
      · cases e'
    · have g : ∀ (y : Str) (d : Addr), List.lookup y [(("__class__" : Str), cc)] = some d → y = "__class__" := by
        intro y d e
        rw [List.lookup_cons, List.lookup_nil] at e
        by_cases h : y = ("__class__" : Str)
        · exact h
        · rw [beq_eq_false_iff_ne.mpr h] at e
          cases e
      exact (g a c e1).trans (g b c e2).symm
    · match i, e with
      | 0, e =>
        have ey : y = "__class__" := (Option.some.inj e).symm
        subst ey
        exact ⟨cc, rfl, fun v hv => ⟨.ref D, by cases hv; rfl, _, KX _ _ hcc, rfl⟩⟩
      | i + 1, e => cases e
  refine PySem.ks_codeAny_call_defAt (fd := PySem.W.fnX x qual (defArgs st) (defBody st) (defScope st) [("__class__", cc)] .none kV doc pm an (.ref cda) ct) (body := defBody st) (binds := ps.zip us) hr.depth (KX _ _ lk) rfl lim (PySem.W.codeRec_of KX hcd) rfl hb S.nocell (fun ⟨n, v⟩ hy => S.par n (List.of_mem_zip hy).1) (fun h₁ hns kp => ?_) S.co S.gen S.kind
  obtain ⟨t, ht, hq⟩ := hbody A outer s H vs Q E (hr.deeper _) hsp
  have I : Inv (cxX CX P w K mg base N x qual st cc cda f A outer s H E) [] (startF N vs [some (.ref D)]) H { s with heap := h₁, toks := s.toks + (ps.zip us).length } := inv_startN S hr.hd e0 hl r C hns kp
  refine wpAt_mono (ht.run [] _ (startF N vs [some (.ref D)]) H _ I hq) (fun fl s' hs => ?_) fun e s' hs => hs
  have fin : ∀ {σ' : L2.St} {H' : Hp} {v : V} {u : Value}, Inv (cxX CX P w K mg base N x qual st cc cda f A outer s H E) [] σ' H' s' → L2.RelV v u → Q v H' → CE outer P w H s Q u s' :=
    fun {σ' H' v u} J rv q => ⟨v, H', J.os, J.bare, J.base, J.hok, rv, q⟩
  cases fl with
  | ret u =>
    obtain ⟨v, σ', H', J, rv, q⟩ := hs
    exact fin J rv q
  | next =>
    obtain ⟨σ', H', J, q⟩ := hs
    exact fin (v := V.non) (u := Value.none) J rfl q
  | brk =>
    obtain ⟨_, _, _, q⟩ := hs
    exact False.elim q
  | cont =>
    obtain ⟨_, _, _, q⟩ := hs
    exact False.elim q
end

/-! ### super().__init__(e) -/
/-- what the written part says of an own error that is made by an __init__ of its own: OexC, its place in the chain -/
structure ErrC (K : PySem.W.Frag) (C : Addr) : Prop where
  ox : OexC K C
  sup : PySem.W.ks_superIn K C C "__init__" = some (some (.builtin "ValueError.__init__"))
  isV : PySem.W.subIn K (.ref C) (.type "ValueError") = some true
  opq : PySem.W.nsIn K cStatics "thirdparty.any" = some none
  me : PySem.W.mroIn K C (.ref C) = some true
/-- what the code object of the def tells -/
structure CodeF (K : PySem.W.Frag) (P : Program) (cda : Addr) : Prop where
  at_ : ∃ (ccl : Value) (cdd : Option Addr) (vs : Array Value) (ccs : Array (Option Value)) (file : Str) (tf : Tok), K.lookup cda = some ⟨ccl, cdd, .fields vs, ccs⟩ ∧ vs[2]? = some (.str file tf) ∧ ((P.main.file : Str) == file) = true
  noTop : (P.main.scope.names.lookup ("super" : Str)).isSome = false
/-- the reading: the text is reckoned, nothing more -/
def tSupI (C : Addr) (ta : TA) : TS := fun D σ H => ∃ a : Addr, σ[0]? = some (some (.ref a)) ∧ H a = some (exo a C none) ∧ ta σ H fun vs H1 => vs.length ≤ 1000 ∧ H1 a = some (exo a C none) ∧ D.nx σ H1
section
variable {X : Cx}
theorem psat_sup {body : List Stmt} {f cc cda C : Addr} {fd : FuncData} {oc : Value} {od : Option Addr} {osl : Array (Option Value)} {cl : Value} {cld : Option Addr} {csl : Array (Option Value)} {ar : Arg} {e : Expr} {es : List Expr} {ta : TA} {p0 p1 apos cpos pos : Pos} {pl : Sem Bool}
    (T : ErrC X.K C) (G : CodeF X.K X.prog cda)
    (hf : X.K.lookup f = some ⟨oc, od, .func fd, osl⟩) (hp : (fd.params.posonlyargs ++ fd.params.args).head? = some ar)
    (hcell : X.K.lookup cc = some ⟨cl, cld, .cell (some (.ref C)), csl⟩) (hsuper : X.mg "super" = none)
    (hfu : X.env.func = some f) (hco : X.env.code = .ref cda) (hcl : X.env.cells.lookup ("__class__" : Str) = some cc)
    (hks : X.env.scope.names.lookup ("super" : Str) = some .globalImplicit) (hkc : X.env.scope.names.lookup ("__class__" : Str) = some .free) (hka : X.env.scope.names.lookup ar.arg = some .local)
    (hN : X.N[0]? = some ar.arg) (ha : PA X (e :: es) ta)
    (hev : eval (.Call (.Attribute (.Call (.Name "super" p0) [] [] p1) "__init__" apos) (e :: es) [] cpos) X.env = (do
      let ov ← attributeBase (.Call (.Name "super" p0) [] [] p1) "__init__" X.env (eval (.Call (.Name "super" p0) [] [] p1) X.env)
      standAt apos.atName
      let (f, first) ← holding [ov] (getMethod ov "__init__" pl)
      callWith cpos f first (backTo cpos (starEach (e :: es) X.env)) []))
    (hst : starEach (e :: es) X.env = (false, eval e X.env) :: starEach es X.env) (hpl : (backTo cpos (starEach es X.env)).any (·.1) = false)
    (hsw : swapsWith (.Call (.Attribute (.Call (.Name "super" p0) [] [] p1) "__init__" apos) (e :: es) [] cpos) none pos.line X.env = pure false) (hint : interactive X.env = false) :
    PSat1 X (.func body X.env) (.Expr (.Call (.Attribute (.Call (.Name "super" p0) [] [] p1) "__init__" apos) (e :: es) [] cpos) pos) (tSupI C ta) := by
  refine ⟨fun pins s σ H D I h => ?_⟩
  obtain ⟨a, hσ, ea, q⟩ := h
  obtain ⟨ccl, cdd, vs, ccs, file, tf, hcode, hvs, hfile⟩ := G.at_
  obtain ⟨nm, qn, N, bs, bm, sn, sub, ab, col, dd, k0, k1, k2, k3, k5, hC, hbm⟩ := T.ox.cls
  have hcls : PySem.W.clsIn X.K C = some { name := nm, bases := bs, mro := .ref C :: bm, ns := N, qualname := qn, hasDict := true, slotNames := sn, subclasses := sub, abstract := ab, collection := col, hasDel := false } := by unfold PySem.W.clsIn; rw [hC] <;> rfl
  obtain ⟨t1, ho⟩ := exo_at I.hok ea
  obtain ⟨hh, g, d, t, os⟩ := s
  have XK := I.kIn
  obtain ⟨mb, hb1, hb2⟩ := I.mod.blt
  obtain ⟨m, hn, hl⟩ := id I.loc
  obtain ⟨u0, ru0, lk0⟩ := hl 0 ar.arg (.ref a) hN hσ (.inl hka)
  obtain rfl : u0 = Value.ref a := ru0
  have hv : m ar.arg = some (Value.ref a) := by
    rcases lk0 with ⟨_, e⟩ | ⟨z, _⟩
    · exact e
    · exfalso
      rcases z with z | z
      · have z' : X.env.scope.names.lookup ar.arg = some .cell := z
        rw [hka] at z'; cases z'
      · have z' : X.env.scope.names.lookup ar.arg = some .free := z
        rw [hka] at z'; cases z'
  refine PySem.ks_wpAt_Expr_any (PySem.ks_wpAt_MethodCall ?_ hev) hint hsw
  refine PySem.ks_wpAt_super_base (env := X.env) hks hkc (by decide) hfu (XK _ _ hf) rfl hp hco (XK _ _ hcode) rfl hvs hfile G.noTop ?_
  refine PySem.W.ks_loadName_global I.ok.kind hks (PySem.Calls.loadGlobal_builtin (by rw [I.ok.glob]; exact I.mod.glob.keeps I.bk) hsuper (by rw [I.ok.blt]; exact hb1.keeps I.bk) ((hb2 "super" (by decide)).trans (by decide +kernel)) ⟨rfl, ?_⟩)
  refine wpAny_loadName_free I.ok.kind hkc hcl ⟨_, XK _ _ hcell, rfl⟩ ?_
  refine wpAny_loadName_local I.ok.kind hka hn hv ?_
  refine ks_wpAny_isType_cls (XK _ _ hC) rfl ⟨rfl, ?_⟩
  refine ks_wpAny_call_super (XK _ _ hC) rfl ho rfl (fun c z => nomatch z) (PySem.W.looks_mroIn XK T.me) (fun h' e1 k1' => ?_)
  have I1 : Inv X pins σ H ⟨h', g, d, t, os⟩ := I.kept (t' := t) k1'
  have X1 := I1.kIn
  have ho1 := k1' _ _ ho
  have IA : PySem.W.InstAt h' a _ C none := ⟨ho1, rfl, rfl, trivial⟩
  refine PySem.W.kxs_getMethod PySem.W.kxs_ValueError e1 (PySem.W.looks_opaque X1 T.opq) (l₀ := .ref C :: bm) ?_ rfl X1 ?_ (IA.type.andThen (PySem.W.looks_subIn X1 T.isV)) (PySem.W.ks_ne X1 IA hcls) (by decide) ?_
  · exact fun A Q E s k q => wpAny_bind ((PySem.W.looks_clsIn X1 hcls) A _ E s k (wpAny_pure q))
  · have q1 := T.sup
    unfold PySem.W.ks_superIn at q1
    rw [hcls] at q1
    exact q1
  have I2 : Inv X pins σ H ⟨h'.push (PySem.W.kxs_mw "ValueError.__init__" a), g, d, t + 1, os⟩ := I1.kept (t' := t + 1) (fun b o z => Heap.get?_push_of_some _ z)
  have hu2 : (h'.push (PySem.W.kxs_mw "ValueError.__init__" a)).get? h'.objs.size = some (PySem.W.kxs_mw "ValueError.__init__" a) := Heap.get?_push_size _ rfl
  have hHu : H h'.objs.size = none := I1.hok.fresh (Nat.le_refl _)
  have J2 : Inv X ((h'.objs.size, PySem.W.kxs_mw "ValueError.__init__" a) :: pins) σ H ⟨h'.push (PySem.W.kxs_mw "ValueError.__init__" a), g, d, t + 1, os⟩ := by
    refine I2.pins_of fun p hp => ?_
    rcases List.mem_cons.mp hp with rfl | hp
    · exact ⟨hu2, hHu, Nat.ne_of_gt I1.lt, I1.nofs (Nat.le_refl _), fun v z => nomatch z⟩
    · exact I2.pin p (List.mem_append_right _ hp)
  have key : wpAny (model X.prog X.w) X.A (spliced (backTo cpos (starEach (e :: es) X.env))) (fun vs s₁ => PySem.W.KxsAt "ValueError.__init__" h'.objs.size a s₁.heap ∧ wpAny (model X.prog X.w) X.A (call (.ref h'.objs.size) vs) (fun _ => SP X pins D .next) X.xe s₁) X.xe ⟨h'.push (PySem.W.kxs_mw "ValueError.__init__" a), g, d, t + 1, os⟩ := by
    refine thn (ha.run cpos _ _ σ H _ J2 q) fun us s3 ⟨vs3, H1, I3, rv, hvl, ea1, qn⟩ => ?_
    have hu3 := (I3.pin (h'.objs.size, PySem.W.kxs_mw "ValueError.__init__" a) (List.mem_append_right _ List.mem_cons_self)).1
    refine ⟨hu3, ?_⟩
    have J3 : Inv X pins σ H1 s3 := I3.pins_of fun p hp => I3.pin p (List.mem_append_right _ (List.mem_cons_of_mem _ hp))
    obtain ⟨t2, ho3⟩ := exo_at J3.hok ea1
    have hus : us.length ≤ sizeLine := by
      rw [← Paired.length rv, sizeLine_eq]; omega
    have hC3 := J3.kIn _ _ hC
    obtain ⟨h3, g3, d3, tk3, os3⟩ := s3
    refine wpAny_call (codeAny_of_tree ?_)
    show wpAny _ X.A.in1 (callAny (.ref h'.objs.size) ⟨us, []⟩) _ _ _
    simp only [callAny]
    refine wpAny_bind (wpAny_load hu3 ?_)
    simp only [PySem.W.kxs_mw, show (Value.type "method-wrapper" == Value.type "method" || Value.type "method-wrapper" == Value.type "builtin_function_or_method" || Value.type "method-wrapper" == Value.type "method-wrapper") = true by decide, if_true]
    refine PySem.W.KFB.if_so (by decide) ?_
    refine wpAny_bind (PySem.W.check_bound_init F.excBase_ValueError.toExcCallFacts hC3 ho3 rfl ?_)
    refine wpAny_bind (wpAny_pure (wpAny_pure ?_))
    refine ⟨plainId_quiet F.excBase_ValueError.init.plain _, codeAny_builtin F.excBase_ValueError.initEntry ?_⟩
    refine PySem.W.exc_init_tree (cls := .ref C) (t0 := t2) (dv := none) (c2 := .none) (c3 := .none) (b4 := .bool false) ho3 hus fun h4 k4 hx4 ht4 => ?_
    have J := J3.write (t' := tk3) (x := a) (e := a) (o := exo a C none) (h' := h4) (by rw [ea1]; exact True.intro) (.inl rfl) k4 ⟨_, hx4⟩ (exo_ok hx4)
    have eu : upd H1 a (exo a C none) = H1 := by
      funext b
      by_cases hb : b = a
      · rw [hb, upd_same, ea1]
      · rw [upd_ne hb]
    rw [eu] at J
    exact ⟨σ, H1, J, qn⟩
  rw [hst] at key ⊢
  refine PySem.W.kxs_callWith (i := "ValueError.__init__") (x := a) (by show (false || (backTo cpos (starEach es X.env)).any (·.1)) = false; rw [hpl]; rfl) ?_
  exact PySem.Calls.evalArgs_plain key
end
end My

set_option Elab.async false
set_option linter.all false
set_option maxRecDepth 100000
set_option maxHeartbeats 4000000
/-! ### own errors: made, raised, caught, asked -/
namespace My
open PySem L2 NdefX
/-- __init__ of an error with one field: what it promises -/
def spErr1 (C : Addr) (f : Str) (P : V → Prop) : Sp := fun vs H Q _ => ∃ (a : Addr) (v : V), vs = [.ref a, v] ∧ P v ∧ H a = some (exo a C none) ∧ ∀ dx, H dx = none → dx ≠ a → Q .non (upd (upd H dx (exd dx [(f, v)])) a (exo a C (some dx)))
/-- .. with two fields -/
def spErr2 (C : Addr) (f g : Str) (P : V → V → Prop) : Sp := fun vs H Q _ => ∃ (a : Addr) (v u : V), vs = [.ref a, v, u] ∧ P v u ∧ H a = some (exo a C none) ∧ ∀ dx, H dx = none → dx ≠ a → Q .non (upd (upd (upd H dx (exd dx [(f, v)])) a (exo a C (some dx))) dx (exd dx [(g, u), (f, v)]))
theorem err_kp {H1 H2 : Hp} {a dx : Addr} {fs : List (Str × V)} (na : H1 a = none) (nd : H1 dx = none) (k : ∀ b, b ≠ a → b ≠ dx → H2 b = H1 b) : Kp [] H1 (upd (del H2 a) dx (.xd fs)) := fun b o _ e => by
  have h1 : b ≠ a := ne_of_none e na
  have h2 : b ≠ dx := ne_of_none e nd
  rw [upd_ne h2, del_ne h1, k b h1 h2]
  exact e
theorem err1_made {C : Addr} {f : Str} {P : V → Prop} {v : V} {H1 : Hp} {Q : XK} (hp : P v) (q : ∀ d H', H1 d = none → H' d = some (.xd [(f, v)]) → Kp [] H1 H' → Q (.ref C) (some d) H') :
    ([v] : List V).length ≤ 1000 ∧ ∀ a, H1 a = none → spErr1 C f P (.ref a :: ([v] ++ [])) (upd H1 a (exo a C none)) (fun v H2 => v = .non ∧ ∃ (d : Addr) (fs : List (Str × V)), H2 a = some (exo a C (some d)) ∧ H2 d = some (exd d fs) ∧ H1 d = none ∧ Q (.ref C) (some d) (upd (del H2 a) d (.xd fs))) (fun _ _ _ => False) := by
  refine ⟨by show 1 ≤ 1000; decide, fun a na => ⟨a, v, rfl, hp, upd_same, fun dx ndx hne => ?_⟩⟩
  rw [upd_ne hne] at ndx
  refine ⟨rfl, dx, _, upd_same, by rw [upd_ne hne]; exact upd_same, ndx, q dx _ ndx upd_same (err_kp na ndx fun b h1 h2 => ?_)⟩
  rw [upd_ne h1, upd_ne h2, upd_ne h1]
theorem err2_made {C : Addr} {f g : Str} {P : V → V → Prop} {v u : V} {H1 : Hp} {Q : XK} (hp : P v u) (q : ∀ d H', H1 d = none → H' d = some (.xd [(g, u), (f, v)]) → Kp [] H1 H' → Q (.ref C) (some d) H') :
    ([v, u] : List V).length ≤ 1000 ∧ ∀ a, H1 a = none → spErr2 C f g P (.ref a :: ([v, u] ++ [])) (upd H1 a (exo a C none)) (fun v H2 => v = .non ∧ ∃ (d : Addr) (fs : List (Str × V)), H2 a = some (exo a C (some d)) ∧ H2 d = some (exd d fs) ∧ H1 d = none ∧ Q (.ref C) (some d) (upd (del H2 a) d (.xd fs))) (fun _ _ _ => False) := by
  refine ⟨by show 2 ≤ 1000; decide, fun a na => ⟨a, v, u, rfl, hp, upd_same, fun dx ndx hne => ?_⟩⟩
  rw [upd_ne hne] at ndx
  refine ⟨rfl, dx, _, by rw [upd_ne hne.symm]; exact upd_same, upd_same, ndx, q dx _ ndx upd_same (err_kp na ndx fun b h1 h2 => ?_)⟩
  rw [upd_ne h2, upd_ne h1, upd_ne h2, upd_ne h1]
/-- what the written part says of an error class that is caught and asked -/
structure KitC (K : PySem.W.Frag) (C : Addr) : Prop where
  cl : (PySem.W.clsIn K C).isSome = true
  ga : PySem.W.findIn K (.ref C) "__getattribute__" = some (some (.builtin "BaseException.__getattribute__"))
  gg : PySem.W.findIn K (.ref C) "__getattr__" = some none
  bx : PySem.W.subIn K (.ref C) (.type "BaseException") = some true
  hc : PySem.W.findIn K (.ref C) "__class__" = some (some (.builtin "object.__class__"))
  hn : PySem.W.specialIn K (.builtin "object.__class__") "__get__" = some (some (.builtin "getset_descriptor.__get__"))
  ht : PySem.W.takesIn K (.builtin "object.__class__") = some true
  ob : PySem.W.mroIn K C (.type "object") = some true
/-- isinstance(e, c), e the error that the suite holds -/
def rIsX (K : PySem.W.Frag) (a : Addr) (cls : Value) (d : Option Addr) : List V → Hp → VK → Prop := fun xs H Q => ∃ (c : V) (cv : Value) (b : Bool) (D dd : Addr) (fs : List (Str × V)), xs = [.ref a, c] ∧ (∀ u, RelV c u → u = cv) ∧ cls = .ref D ∧ d = some dd ∧ H dd = some (.xd fs) ∧ KitC K D ∧ PySem.W.kitOne K (.ref D) cv = some b ∧ Q (.bl b) H
/-- .. a tuple of classes that was just laid -/
def rIsXT (K : PySem.W.Frag) (a : Addr) (cls : Value) (d : Option Addr) : List V → Hp → VK → Prop := fun xs H Q => ∃ (tp : Addr) (cs : List V) (us : List Value) (b : Bool) (D dd : Addr) (fs : List (Str × V)), xs = [.ref a, .ref tp] ∧ H tp = some (.tup cs) ∧ Paired ClsV cs us ∧ cls = .ref D ∧ d = some dd ∧ H dd = some (.xd fs) ∧ KitC K D ∧ PySem.W.kitAny K (.ref D) us = some b ∧ Q (.bl b) H
section
variable {X : Cx} {a : Addr} {oe : Obj} {cls : Value} {d : Option Addr} {pn : List (Addr × Obj)}
theorem inst_x {pins : List (Addr × Obj)} {s : Shared} {σ : L2.St} {H : Hp} {D dd : Addr} {fs : List (Str × V)} (I : Inv (X.suite a ((a, oe) :: pn)) pins σ H s) (hz : Zc (.ref D) (some dd) oe) (hf : ∃ vs, oe.data = .fields vs) (e : H dd = some (.xd fs)) : ∃ od, PySem.W.InstAt s.heap a oe D (some od) := by
  obtain ⟨ha, _⟩ := I.pin (a, oe) (List.mem_append_left _ List.mem_cons_self)
  obtain ⟨vs, hv⟩ := hf
  obtain ⟨mA, hns, _⟩ := (show ObjOk X.prog X.w H s.heap dd (.xd fs) from I.hok dd _ e)
  obtain ⟨od, ho, _⟩ := lookIn_ns hns
  exact ⟨od, ha, hz.1, by unfold PySem.W.notCls; rw [hv] <;> rfl, by rw [hz.2]; exact ho⟩
theorem call_isX (hz : Zc cls d oe) (hf : ∃ vs, oe.data = .fields vs) : CallR (X.suite a ((a, oe) :: pn)) (.builtin "isinstance") (rIsX X.K a cls d) := by
  intro pins s σ H xs us Q I r h
  obtain ⟨c, cv, b, D, dd, fs, rfl, hcv, rfl, rfl, ed, T, e, q⟩ := h
  obtain ⟨u1, u2, rfl, r1, r2⟩ := vals2 r
  cases (show u1 = Value.ref a from r1)
  cases hcv _ r2
  obtain ⟨od, J⟩ := inst_x I hz hf ed
  exact PySem.W.kia_one (PySem.W.kitx_exc T.cl T.ga T.gg T.bx T.hc T.hn T.ht T.ob) I.kIn J e (fun z => nomatch z) fun tk => ⟨.bl b, H, I.tok tk, rfl, q⟩
theorem call_isXT (hz : Zc cls d oe) (hf : ∃ vs, oe.data = .fields vs) : CallR (X.suite a ((a, oe) :: pn)) (.builtin "isinstance") (rIsXT X.K a cls d) := by
  intro pins s σ H xs us Q I r h
  obtain ⟨tp, cs, ws, b, D, dd, fs, rfl, hT, k, rfl, rfl, ed, T, e, q⟩ := h
  obtain ⟨u1, u2, rfl, r1, r2⟩ := vals2 r
  cases (show u1 = Value.ref a from r1)
  cases (show u2 = Value.ref tp from r2)
  obtain ⟨od, J⟩ := inst_x I hz hf ed
  obtain ⟨_, its, rv, o, h1, h2, n, h3⟩ := (show ObjOk X.prog X.w H s.heap tp (.tup cs) from I.hok tp _ hT)
  cases ClsV.all k rv
  obtain ⟨oc, od2, dt, sl⟩ := o
  simp only at h2 h3
  subst h2 h3
  exact PySem.W.kia_tup (PySem.W.kitx_exc T.cl T.ga T.gg T.bx T.hc T.hn T.ht T.ob) I.kIn J h1 e (fun z => nomatch z) fun tk => ⟨.bl b, H, I.tok tk, rfl, q⟩
end
end My

set_option Elab.async false
set_option linter.all false
set_option maxRecDepth 100000
set_option maxHeartbeats 4000000
/-! ### try with several clauses that bind the error -/
namespace My
open PySem PySem.Spec PyProof.Rows L2
/-- one clause: the class that it names, the slot of its name, its suite's reading -/
structure Cla where
  c : Value
  i : Nat
  ts : Addr → Value → Option Addr → TS
/-- behind a suite the name in slot i is gone -/
def Ends.off (i : Nat) (D : L2.Ends) : L2.Ends where
  nx σ H := D.nx (σ.set i none) H
  rt := D.rt
  bk σ H := D.bk (σ.set i none) H
  ct σ H := D.ct (σ.set i none) H
/-- what clauses, tried in turn, wish -/
def wClas (K : PySem.W.Frag) (W0 : WX) (D : L2.Ends) : List Cla → WX
  | [] => W0
  | k :: ks => fun cls d σ H => ∃ hit, PySem.W.exmOne K cls k.c = some hit ∧ (hit = true → ∀ a, H a = none → k.ts a cls d (Ends.off k.i D) (σ.set k.i (some (.ref a))) H) ∧ (hit = false → wClas K W0 D ks cls d σ H)
/-- the clauses as they are written -/
inductive Clauses (X : Cx) : List ExceptHandler → List Cla → Prop
  | nil : Clauses X [] []
  | cons {k : Cla} {ks : List Cla} {x n : Str} {b1 : Stmt} {bs : List Stmt} {p1 p2 : Pos} {hs : List ExceptHandler} (nm : Names X x k.c) (at_ : X.N[k.i]? = some n) (lo : X.env.kindOf n = some .local)
      (suite : ∀ (a : Addr) (oe : Obj) (cls : Value) (d : Option Addr) (pn : List (Addr × Obj)), Zc cls d oe → (∃ vs, oe.data = .fields vs) → PSs (X.suite a ((a, oe) :: pn)) (b1 :: bs) (k.ts a cls d)) (more : Clauses X hs ks) :
      Clauses X (.ExceptHandler (some (.Name x p1)) (some n) (b1 :: bs) p2 :: hs) (k :: ks)
section
variable {X : Cx} {pins : List (Addr × Obj)} {σ : L2.St} {H : Hp} {s0 sI : Shared} {h3 B : Heap} {a : Addr} {cls : Value} {d : Option Addr} {D : L2.Ends} {W0 : WX}
/-- the clauses are tried, the error being at a -/
theorem clauses_run (top : X.stack = X.env :: X.outer) (fr : X.env.frame = some X.env.locals) (nd : X.N.Nodup) (tk : Takes X W0) (J : Inv X pins σ H sI) (na : H a = none)
    (J' : ∀ h4, HandSPX.FlyingZ B (X.env :: X.outer) a (Zc cls d) h4 → h3.UpToSlots h4 → Inv X pins σ H { s0 with heap := h4 })
    (out : W0 cls d σ H → ∀ (h4 : Heap), HandSPX.HeldZ B (X.env :: X.outer) a (Zc cls d) X.env.locals h4 → h3.UpToSlots h4 → X.xe (.ref a) { s0 with heap := h4 })
    (fl : HandSPX.FlyingZ B (X.env :: X.outer) a (Zc cls d) h3) : ∀ {hs : List ExceptHandler} {ks : List Cla}, Clauses X hs ks → wClas X.K W0 D ks cls d σ H →
      wpAny (model X.prog X.w) X.A (handleBy (.ref a) X.env hs) (SP X pins D) X.xe { s0 with heap := h3 } := by
  have ok := J.ok
  have J3 := J' h3 fl (Heap.UpToSlots.refl _)
  have far : ∀ {h : Heap} {o : Obj} {vs : Array Value}, h.FunFrames B (X.env :: X.outer) → h.get? a = some o → o.data = .fields vs → a ∉ frs (X.env :: X.outer) := by
    intro h o vs ff e dd hm
    obtain ⟨_, o', e', other⟩ := ff.mem hm
    cases e.symm.trans e'
    exact other _ dd
  obtain ⟨oe, vs, he, hz, hd⟩ := fl.there
  have away := far fl.2.2.1 he hd
  have nL : a ≠ X.env.locals := by
    intro z
    exact away (List.mem_filterMap.mpr ⟨X.env, List.mem_cons_self, by rw [fr, z]⟩)
  have nF : a ∉ X.fs := by
    intro hm
    obtain ⟨e, me, q⟩ := List.mem_filterMap.mp hm
    exact away (List.mem_filterMap.mpr ⟨e, List.mem_cons_of_mem _ me, q⟩)
  have S3 := J3.suite he hd na nL nF
  intro hs ks C
  induction C with
  | nil =>
    intro q
    refine wpAny_handleBy_nil ?_
    obtain ⟨_, _, _, o1, v1, T1, _, _, e1, _, d1, f1, _⟩ := id fl
    unfold PySem.passOn
    refine wpAny_bind (wpAny_field e1 d1 f1 ?_)
    rw [if_neg (show ¬ ((Value.ref T1 == Value.none) = true) by simp)]
    have leave : wpAny (model X.prog X.w) X.A (setFlight (.ref a) X.env.frame) (fun _ s4 => wpAny (model X.prog X.w) X.A (throw (.ref a) : Sem Flow) (SP X pins D) X.xe s4) X.xe { s0 with heap := h3 } := by
      rw [fr]
      exact HandSPX.setFlight_upZ fl fun h4 held up => wpAny_throw (out q h4 held up)
    first | exact wpAny_bind (wpAny_pure (wpAny_bind leave)) | exact wpAny_bind leave
  | @cons k ks x n b1 bs p1 p2 hs nm at_ lo suite more ih =>
    rintro ⟨hit, e1, yes, no⟩
    refine wpAny_handleBy_cons (codeAny_handlers_test ?_) (by intro q; cases q)
    have looks : PySem.W.Looks (model X.prog X.w) h3 (typeOf (.ref a)) cls := by
      intro A Q E s kk q
      exact wpAny_typeOf_ref (kk _ _ he) (by rw [hz.1]; exact q)
    have named : ∀ {Q : Value → Shared → Prop} {E : Value → Shared → Prop}, Q k.c { s0 with heap := h3 } → wpAny (model X.prog X.w) (X.A.mark (some (.ref a))) (eval (.Name x p1) X.env) Q E { s0 with heap := h3 } := by
      intro Q E q
      obtain ⟨g1, g2, m1 | ⟨m1, m2, m3⟩⟩ := nm
      · exact ld_glob (X := X.suite a ((a, oe) :: (X.pn ++ pins))) S3 g1 m1 q g2
      · exact ld_blt (X := X.suite a ((a, oe) :: (X.pn ++ pins))) S3 g1 m1 m2 q m3 g2
    refine named ((PySem.W.exm_one (M := model X.prog X.w) J3.kIn looks e1).here ?_)
    cases hit with
    | false => exact (show wpAny _ X.A (handleBy (.ref a) X.env hs) _ _ _ from ih (no rfl))
    | true =>
      refine codeAny_handlers_suite_as (HandSPX.lands_againZ fl fun h4 fl4 up4 => ?_)
      have J4 := J' h4 fl4 up4
      obtain ⟨o4, v4, e4, z4, d4⟩ := fl4.there
      refine store_ok (X := X.suite a ((a, o4) :: (X.pn ++ pins))) (v := .ref a) (J4.suite e4 d4 na nL nF) nd at_ (.inl lo) rfl (fun s5 S5 => ?_) (.inr lo)
      refine wpAny_mono ((suite a o4 cls d (X.pn ++ pins) z4 ⟨_, d4⟩).run [] s5 _ H _ S5 (yes rfl a na)) ?_ fun _ _ z => z.elim
      rintro fl' s6 hsp
      have close : ∀ {τ : L2.St} {G : Hp} {Q : Shared → Prop}, Inv (X.suite a ((a, o4) :: (X.pn ++ pins))) [] τ G s6 → (∀ s7, Inv X pins (τ.set k.i none) G s7 → Q s7) →
          wpAny (model X.prog X.w) X.A (do bindName X.env n .none; unbindBehindTheSuite X.env n p2) (fun _ s7 => Q s7) X.xe s6 := fun S6 hq => gone_ok (S6.unsuite ok) nd at_ lo hq
      cases fl' with
      | ret u =>
        obtain ⟨v, τ, G, S6, r, q⟩ := hsp
        exact close S6 fun s7 J7 => ⟨_, _, _, J7, r, q⟩
      | _ =>
        obtain ⟨τ, G, S6, q⟩ := hsp
        exact close S6 fun s7 J7 => ⟨_, _, J7, q⟩
end
section
variable {X : Cx} {body : List Stmt} {h1 : ExceptHandler} {hs : List ExceptHandler} {ks : List Cla} {pos : Pos} {tb : WX → TS} {W0 : WX}
theorem ps_try_clauses (top : X.stack = X.env :: X.outer) (fr : X.env.frame = some X.env.locals) (nd : X.N.Nodup) (C : Clauses X (h1 :: hs) ks) (tk : Takes X W0)
    (hb : ∀ (W : WX) (pn : List (Addr × Obj)) (xe : Value → Shared → Prop), Takes (X.tr pn xe) W → PassesOwn (model X.prog X.w) X.A X.env xe → PSs (X.tr pn xe) body (tb W)) :
    PS X (.Try body (h1 :: hs) [] [] pos) (fun D σ H => tb (wClas X.K W0 D ks) D σ H) := by
  refine ⟨fun pins s σ H D I q0 => ?_⟩
  have ok := I.ok
  have frames : X.A.frames = some (X.env :: X.outer) := ok.frames.trans (by rw [top])
  let xe1 : Value → Shared → Prop := fun e s1 => wpAny (model X.prog X.w) X.A (noteFrame e X.env) (fun _ s2 => wpAny (model X.prog X.w) X.A (setFlight e none) (fun _ s3 => wpAny (model X.prog X.w) X.A (handleBy e X.env (h1 :: hs)) (SP X pins D) X.xe s3) X.xe s2) X.xe s1
  have takes : Takes (X.tr (X.pn ++ pins) xe1) (wClas X.K W0 D ks) := by
    rintro u s' ⟨a, B, sI, pins', σ', H', cls, d, rfl, J', nb, up, sky, na, os, ag, w⟩
    have J : Inv X pins σ' H' sI := J'.ofTry ok
    have sky' : Sky B (X.env :: X.outer) a (Zc cls d) X.env.locals s'.heap := by rw [← top]; exact sky
    refine Sky.land Zc.steady frames fr sky' fun h3 fl3 up3 => ?_
    refine clauses_run top fr nd tk J na (fun h4 fl4 up4 => J.landed nb fl4.1 ((up.trans up3).trans up4) os ag) (fun w0 h4 held up4 => ?_) fl3 C w
    exact tk _ _ ⟨a, B, sI, pins, σ', H', cls, d, rfl, J, nb, (up.trans up3).trans up4, .inr (.inr (by rw [top]; exact held)), na, os, ag, w0⟩
  refine wpAny_Try_except (wpAny_mono ((hb _ (X.pn ++ pins) xe1 takes PassesOwn.looking).run [] s σ H D (I.toTry _) q0) ?_ fun e s1 he => he)
  rintro f s1 hsp
  cases f with
  | next =>
    obtain ⟨τ, G, J, q⟩ := hsp
    exact wpAny_execs_nil ⟨τ, G, J.ofTry ok, q⟩
  | ret u =>
    obtain ⟨v, τ, G, J, r, q⟩ := hsp
    exact ⟨v, τ, G, J.ofTry ok, r, q⟩
  | _ =>
    obtain ⟨τ, G, J, q⟩ := hsp
    exact ⟨τ, G, J.ofTry ok, q⟩
end
section
variable {X : Cx} {body : List Stmt} {pos : Pos} {tb : WX → TS} {W0 : WX} {x1 n1 x2 n2 x3 n3 : Str} {c1 c2 c3 : Value} {i1 i2 i3 : Nat} {b1 b2 b3 : Stmt} {r1 r2 r3 : List Stmt} {p1 p2 p3 q1 q2 q3 : Pos} {t1 t2 t3 : Addr → Value → Option Addr → TS}
theorem ps_try_as2 (top : X.stack = X.env :: X.outer) (fr : X.env.frame = some X.env.locals) (nd : X.N.Nodup) (a1 : X.N[i1]? = some n1) (a2 : X.N[i2]? = some n2) (l1 : X.env.kindOf n1 = some .local) (l2 : X.env.kindOf n2 = some .local) (m1 : Names X x1 c1) (m2 : Names X x2 c2) (tk : Takes X W0)
    (hb : ∀ (W : WX) (pn : List (Addr × Obj)) (xe : Value → Shared → Prop), Takes (X.tr pn xe) W → PassesOwn (model X.prog X.w) X.A X.env xe → PSs (X.tr pn xe) body (tb W))
    (s1 : ∀ (a : Addr) (oe : Obj) (cls : Value) (d : Option Addr) (pn : List (Addr × Obj)), Zc cls d oe → (∃ vs, oe.data = .fields vs) → PSs (X.suite a ((a, oe) :: pn)) (b1 :: r1) (t1 a cls d))
    (s2 : ∀ (a : Addr) (oe : Obj) (cls : Value) (d : Option Addr) (pn : List (Addr × Obj)), Zc cls d oe → (∃ vs, oe.data = .fields vs) → PSs (X.suite a ((a, oe) :: pn)) (b2 :: r2) (t2 a cls d)) :
    PS X (.Try body [.ExceptHandler (some (.Name x1 p1)) (some n1) (b1 :: r1) q1, .ExceptHandler (some (.Name x2 p2)) (some n2) (b2 :: r2) q2] [] [] pos) (fun D σ H => tb (wClas X.K W0 D [⟨c1, i1, t1⟩, ⟨c2, i2, t2⟩]) D σ H) :=
  ps_try_clauses top fr nd (.cons m1 a1 l1 s1 (.cons m2 a2 l2 s2 .nil)) tk hb
theorem ps_try_as3 (top : X.stack = X.env :: X.outer) (fr : X.env.frame = some X.env.locals) (nd : X.N.Nodup) (a1 : X.N[i1]? = some n1) (a2 : X.N[i2]? = some n2) (a3 : X.N[i3]? = some n3) (l1 : X.env.kindOf n1 = some .local) (l2 : X.env.kindOf n2 = some .local) (l3 : X.env.kindOf n3 = some .local)
    (m1 : Names X x1 c1) (m2 : Names X x2 c2) (m3 : Names X x3 c3) (tk : Takes X W0)
    (hb : ∀ (W : WX) (pn : List (Addr × Obj)) (xe : Value → Shared → Prop), Takes (X.tr pn xe) W → PassesOwn (model X.prog X.w) X.A X.env xe → PSs (X.tr pn xe) body (tb W))
    (s1 : ∀ (a : Addr) (oe : Obj) (cls : Value) (d : Option Addr) (pn : List (Addr × Obj)), Zc cls d oe → (∃ vs, oe.data = .fields vs) → PSs (X.suite a ((a, oe) :: pn)) (b1 :: r1) (t1 a cls d))
    (s2 : ∀ (a : Addr) (oe : Obj) (cls : Value) (d : Option Addr) (pn : List (Addr × Obj)), Zc cls d oe → (∃ vs, oe.data = .fields vs) → PSs (X.suite a ((a, oe) :: pn)) (b2 :: r2) (t2 a cls d))
    (s3 : ∀ (a : Addr) (oe : Obj) (cls : Value) (d : Option Addr) (pn : List (Addr × Obj)), Zc cls d oe → (∃ vs, oe.data = .fields vs) → PSs (X.suite a ((a, oe) :: pn)) (b3 :: r3) (t3 a cls d)) :
    PS X (.Try body [.ExceptHandler (some (.Name x1 p1)) (some n1) (b1 :: r1) q1, .ExceptHandler (some (.Name x2 p2)) (some n2) (b2 :: r2) q2, .ExceptHandler (some (.Name x3 p3)) (some n3) (b3 :: r3) q3] [] [] pos) (fun D σ H => tb (wClas X.K W0 D [⟨c1, i1, t1⟩, ⟨c2, i2, t2⟩, ⟨c3, i3, t3⟩]) D σ H) :=
  ps_try_clauses top fr nd (.cons m1 a1 l1 s1 (.cons m2 a2 l2 s2 (.cons m3 a3 l3 s3 .nil))) tk hb
end
end My

set_option Elab.async false
set_option linter.all false
set_option maxRecDepth 100000
set_option maxHeartbeats 4000000
/-! ### d.values() as a value, list(d.values()) -/
namespace My
open PySem L2 PySem.W
/-- at q: the view of the values of the dict at d -/
def viewO (q d : Addr) : HO := .ext fun h => h.get? q = some ({ cls := .type "dict_values", data := .fields #[.ref d] } : Obj)
theorem view_ok {P : Program} {w : World} {H : Hp} {h : Heap} {q d : Addr} (e : h.get? q = some ({ cls := .type "dict_values", data := .fields #[.ref d] } : Obj)) : ObjOk P w H h q (viewO q d) := ⟨e, ⟨_, e⟩, fun _ _ z k => k _ z⟩
theorem view_at {P : Program} {w : World} {H : Hp} {h : Heap} {q d : Addr} (ok : HOk P w H h) (e : H q = some (viewO q d)) : h.get? q = some ({ cls := .type "dict_values", data := .fields #[.ref d] } : Obj) := by
  have x : ObjOk P w H h q (.ext fun h => h.get? q = some ({ cls := .type "dict_values", data := .fields #[.ref d] } : Obj)) := ok q _ e
  exact x.1
def tVals (td : TE) : TE := fun σ H Q => td σ H fun x H1 => ∃ (a : Addr) (kvs : List (Key × V)), x = .ref a ∧ H1 a = some (.dK kvs) ∧ ∀ q, H1 q = none → Q (.ref q) (upd H1 q (viewO q a))
def rListV : List V → Hp → VK → Prop := fun xs H Q => ∃ (q a : Addr) (kvs : List (Key × V)), xs = [.ref q] ∧ H q = some (viewO q a) ∧ H a = some (.dK kvs) ∧ ∀ p, H p = none → Q (.ref p) (upd H p (.lst (kvs.map fun kv => kv.2)))
theorem vals_of : ∀ {kvs : List (Key × V)} {vs : List (Key × Value)} {us : List Value}, KV kvs vs → us.length = vs.length → (∀ (j : Nat) (v : Value), us[j]? = some v → ∃ k, vs[j]? = some (k, v)) → Vals (kvs.map fun kv => kv.2) us
  | [], [], [], _, _, _ => .nil
  | p :: r, q :: vs, u :: us, h, hl, e => by
    cases h with
    | cons h1 h2 =>
      obtain ⟨k, e1⟩ := e 0 u rfl
      have e1' : q = (k, u) := Option.some.inj e1
      subst e1'
      exact .cons h1.2 (vals_of h2 (by simpa using hl) fun j v z => e (j + 1) v z)
  | [], _ :: _, _, h, _, _ => by cases h
  | _ :: _, [], _, h, _, _ => by cases h
  | [], [], _ :: _, _, hl, _ => by cases hl
  | _ :: _, _ :: _, [], _, hl, _ => by cases hl
section
variable {X : Cx} {o : Expr} {td : TE} {apos cpos : Pos}
theorem pe_values (he : PE X o td) (hbase : attributeBase o "values" X.env (eval o X.env) = eval o X.env := by rfl) (hline : (apos.endLine == cpos.line) = true := by rfl) : PE X (.Call (.Attribute o "values" apos) [] [] cpos) (tVals td) := by
  refine ⟨fun pins s σ H Q I h => ?_⟩
  refine wpAny_Call_method (T := "dict") (id := "dict.values") hbase rfl hline F.plainAttrs_dict F.slot_dict_values F.type_dict_values (thn (he.run pins s σ H _ I h) fun u s1 ⟨x, H1, I1, rx, d, kvs, ex, hd, q⟩ => ?_)
  subst ex
  cases (show u = Value.ref d from rx)
  obtain ⟨_, hs, vs, rel, dof⟩ := dk_of I1.hok hd
  refine ⟨dof.typeIs, dof.mapOf.noDict, ?_⟩
  have got := Heap.get?_push_size s1.heap (o := ({ cls := .type "dict_values", data := .fields #[.ref d] } : Obj)) rfl
  have J : Inv X pins σ (upd H1 s1.heap.objs.size (viewO s1.heap.objs.size d)) { s1 with heap := s1.heap.push { cls := .type "dict_values", data := .fields #[.ref d] } } := I1.laid (t' := s1.toks) (fun b ob q => Heap.get?_push_of_some _ q) (Nat.le_refl _) (view_ok got)
  exact method_meetsIn F.slot_dict_values F.entry_dict_values rfl (PySem.evalArgs_none ⟨rfl, dof.typeIs, F.args_dict_values_1 _, _, meets_dict_values (mixKind X.prog X.w) d hs, ⟨vs, dof⟩, ⟨.ref s1.heap.objs.size, _, J, rfl, q _ (I1.hok.fresh (Nat.le_refl _))⟩⟩)
theorem call_listV (hcalm : X.calm = true) : CallR X (.type "list") rListV := by
  intro pins s σ H xs us Q I r h
  obtain ⟨v, a, kvs, rfl, hv, ha, q⟩ := h
  obtain ⟨u, rfl, rx⟩ := vals1 r
  cases (show u = Value.ref v from rx)
  obtain ⟨z, hs, vs, rel, dof⟩ := dk_of I.hok ha
  obtain ⟨es, ep, raw, sz, each⟩ := dof.raw
  have hl := KV.length rel
  refine PySem.W.kdl_call (KdlSrc.rawValues (r := v) (d := a) (es := es) (ep := ep)) (I.ok.hd hcalm) ⟨⟨_, view_at I.hok hv, rfl, rfl⟩, raw⟩ (by omega) fun h' tk acc c' hk hD hacc => ?_
  have av : Vals (kvs.map fun kv => kv.2) acc.toList := vals_of rel (by rw [Array.length_toList, hacc.1, sz]) fun j u ej => by
    rw [Array.getElem?_toList] at ej
    obtain ⟨hi, rfl⟩ := hacc.2 j u ej
    have hj : j < vs.length := by omega
    have e1 : vs[j]? = some (vs[j].1, vs[j].2) := List.getElem?_eq_getElem hj
    have e2 := (each j hi _ _ e1).2
    exact ⟨vs[j].1, by rw [e1, e2]⟩
  refine ⟨.ref s.heap.objs.size, upd H s.heap.objs.size (.lst (kvs.map fun kv => kv.2)), I.laid (t' := tk) hk (Nat.le_refl _) ?_, rfl, q _ (I.hok.fresh (Nat.le_refl _))⟩
  exact (show ObjOk X.prog X.w _ _ _ (.lst _) from ⟨by rw [List.length_map]; exact z, acc.toList, c', av, by rw [Array.toArray_toList]; exact hD⟩)
end
end My

set_option Elab.async false
set_option linter.all false
set_option maxRecDepth 100000
/-! ### raised out of a walk of a dict: behind it the dict stands as before -/
namespace My
open PySem L2
/-- the same wish, asked where the walked dict is free again -/
def WLock (X : Cx) (W : WX) : WX := fun cls dx σ H => ∃ (d : Addr) (u : HO) (od : Obj), H d = some (.frz od u) ∧ (∀ o v, X.H_0 d ≠ some (.frz o v)) ∧ W cls dx σ (upd H d u)
theorem takes_lock {X : Cx} {W : WX} (tk : Takes X W) : Takes X (WLock X W) := by
  rintro e s' ⟨a, B, sI, pins, σ, H, cls, dx, rfl, I, nb, up, sky, na, os, ag, d, u, od, hd, nf, w⟩
  have ad : a ≠ d := fun z => by rw [z, hd] at na; cases na
  exact tk _ _ ⟨a, B, sI, pins, σ, upd H d u, cls, dx, rfl, I.unlock hd nf, nb, up, sky, by rw [upd_ne ad]; exact na, os, ag, w⟩
end My

set_option Elab.async false
set_option linter.all false
set_option maxRecDepth 100000
set_option maxHeartbeats 4000000
/-! ### a dict comprehension over any walk -/
namespace My
open PySem L2
theorem dc_it {J : It} {n : Nat} {G : Hp → Prop} {Y : Nat → Hp → V → Hp → Prop} (wk : Walk J n G Y) {g : TG} {tt : TT} {tk tv : TE} {vs : List Nat} {σ : L2.St} {H1 : Hp} {D : Addr} {Qd : Hp → Prop} (Inv : Nat → Hp → Prop) (begins : Inv 0 (upd H1 D (.dK []))) (may : ∀ i H, i ≤ n → Inv i H → G H)
    (turn : ∀ i x H H', i < n → Inv i H → Y i H x H' → g x (wipe σ vs) H' fun σ2 H2 => wipe σ2 vs = wipe σ vs ∧ tt σ2 H2 fun b H3 =>
      if b = true then tk σ2 H3 fun y H4 => tv σ2 H4 fun z H5 => ∃ kvs k, y = kV k ∧ H5 D = some (.dK kvs) ∧ kvs.length < sizeLine ∧ Inv (i + 1) (upd H5 D (.dK (putK kvs k z))) else Inv (i + 1) H3) (ends : ∀ H, Inv n H → Qd H) :
    ∃ W : Nat → Nat → Hp → Prop, (∃ m, W 0 m (upd H1 D (.dK []))) ∧ ∀ i m H, W i m H →
      (J.stop i H ∧ Qd H) ∨ (J.go i H ∧ ∃ Nx : Hp → Prop, (∀ H', Nx H' → ∃ m', m' < m ∧ W (i + 1) m' H') ∧ ∀ x H', J.yld i H x H' → g x (wipe σ vs) H' fun σ2 H2 => wipe σ2 vs = wipe σ vs ∧ tt σ2 H2 fun b H3 =>
        if b = true then tk σ2 H3 fun y H4 => tv σ2 H4 fun z H5 => ∃ kvs k, y = kV k ∧ H5 D = some (.dK kvs) ∧ kvs.length < sizeLine ∧ Nx (upd H5 D (.dK (putK kvs k z))) else Nx H3) := by
  refine ⟨fun i m H => m + i = n ∧ Inv i H, ⟨n, rfl, begins⟩, fun i m H h => ?_⟩
  obtain ⟨e, p⟩ := h
  have ok := may i H (by omega) p
  rcases Nat.lt_or_ge i n with lt | ge
  · exact .inr ⟨wk.goes i H lt ok, Inv (i + 1), fun H' p' => ⟨m - 1, by omega, by omega, p'⟩, fun x H' y => turn i x H H' lt p (wk.yields i H x H' lt ok y)⟩
  · have z : i = n := by omega
    subst z
    exact .inl ⟨wk.stops H ok, ends H p⟩
end My

set_option Elab.async false
set_option linter.all false
set_option maxRecDepth 100000
set_option maxHeartbeats 4000000
/-! ### a list comprehension of two clauses -/
namespace My
open PySem L2
/-- the inner clause: it adds to the list at D; Nx behind it -/
def tLcIn (wi : TI) (g : TG) (tt : TT) (te : TE) (vs : List Nat) (D : Addr) (σ : L2.St) (H : Hp) (Nx : Hp → Prop) : Prop := wi σ H fun J H1 => ∃ W : Nat → Nat → Hp → Prop, (∃ m, W 0 m H1) ∧ ∀ i m H, W i m H →
  (J.stop i H ∧ Nx H) ∨ (J.go i H ∧ ∃ N2 : Hp → Prop, (∀ H', N2 H' → ∃ m', m' < m ∧ W (i + 1) m' H') ∧ ∀ x H', J.yld i H x H' → g x (wipe σ vs) H' fun σ2 H2 => wipe σ2 vs = wipe σ vs ∧ tt σ2 H2 fun b H3 =>
    if b = true then te σ2 H3 fun y H4 => ∃ acc, H4 D = some (.lst acc) ∧ acc.length < sizeLine ∧ N2 (upd H4 D (.lst (acc ++ [y]))) else N2 H3)
def tLc2 (wi1 : TI) (g1 : TG) (tt1 : TT) (wi2 : TI) (g2 : TG) (tt2 : TT) (te : TE) (vs vs2 : List Nat) : TE := fun σ H Q => wi1 σ H fun J H1 => ∀ D, H1 D = none → ∃ W : Nat → Nat → Hp → Prop, (∃ m, W 0 m (upd H1 D (.lst []))) ∧ ∀ i m H, W i m H →
  (J.stop i H ∧ Q (.ref D) H) ∨ (J.go i H ∧ ∃ Nx : Hp → Prop, (∀ H', Nx H' → ∃ m', m' < m ∧ W (i + 1) m' H') ∧ ∀ x H', J.yld i H x H' → g1 x (wipe σ vs) H' fun σ2 H2 => wipe σ2 vs = wipe σ vs ∧ tt1 σ2 H2 fun b H3 =>
    if b = true then tLcIn wi2 g2 tt2 te vs2 D σ2 H3 Nx else Nx H3)
section
variable {X : Cx} {elt t1 it1 t2 it2 : Expr} {ifs1 ifs2 : List Expr} {scope : Scope} {pos : Pos} {wi1 wi2 : TI} {g1 g2 : TG} {tt1 tt2 : TT} {te : TE} {vs vs2 : List Nat}
theorem lc2_in (hx : X.xe = fun _ _ => False) (hc : X.calm = true) (hi : PI X t2 it2 wi2) (pg : PG X t2 g2) (pt : PTs X ifs2 tt2) (pe : PE X elt te) {pins : List (Addr × Obj)} {s : Shared} {σ : L2.St} {H : Hp} {D : Addr} {Nx : Hp → Prop} (I : Inv X pins σ H s) (h : tLcIn wi2 g2 tt2 te vs2 D σ H Nx) :
    wpAny (model X.prog X.w) X.A (eval it2 X.env) (fun xv s1 => wpAny (model X.prog X.w) X.A (pyIter xv) (fun itv s2 => ∀ (R : Result → Shared → Prop), (∀ s' H', Inv X pins (wipe σ vs2) H' s' → Nx H' → R (.ok .next) s') →
      codeAny (model X.prog X.w) X.A (.compStart (.ListComp elt [⟨t1, it1, ifs1, 0⟩, ⟨t2, it2, ifs2, 0⟩] scope pos) 1 itv (.ref D) X.env) R s2) (fun _ _ => False) s1) (fun _ _ => False) s := by
  have key := hi.run pins s σ H _ I h
  rw [hx] at key
  refine wpAny_mono key (fun xv s1 h1 => wpAny_mono h1 (fun itv s2 h2 => ?_) fun _ _ z => z) fun _ _ z => z
  obtain ⟨it, fp, tn, J, H2, e, I2, T, st2, f2, W, ⟨m0, w0⟩, turn⟩ := h2
  subst e
  intro R fin
  have stat : ∀ {H' : Hp}, (∀ b ∈ fp, H' b = none) → ∀ b ∈ fp, FpOk X pins H' b := fun hn b hb => ⟨hn b hb, (f2 b hb).2⟩
  have I2w : Inv X pins (wipe σ vs2) H2 s2 := I2.weak (wipe_length ..) (fun j v e => (wipe_some e).1)
  have loop : codeAny (model X.prog X.w) X.A (.compLoop (.ListComp elt [⟨t1, it1, ifs1, 0⟩, ⟨t2, it2, ifs2, 0⟩] scope pos) 1 (.ref it) (.ref D) X.env) R s2 := by
    refine codeAny_loop rfl (fun n s' => ∃ i H', Inv X pins (wipe σ vs2) H' s' ∧ tn i s'.heap ∧ (∀ b ∈ fp, H' b = none) ∧ W i n H') ?_ m0 ⟨0, H2, I2w, st2, fun b hb => (f2 b hb).1, w0⟩
    rintro n s3 ⟨i, H3, I3, st3, fr3, w3⟩
    show wpAny _ X.A ((compTurn (.ListComp elt [⟨t1, it1, ifs1, 0⟩, ⟨t2, it2, ifs2, 0⟩] scope pos) 1 (.ref it) (.ref D) X.env).onRaise (fun x => do noteFrame x X.env; theTreesLotGoes x)) _ _ s3
    refine wpAny_noted ?_
    rw [compTurn_list2_in]
    refine wpAny_bind (wpAny_standAt ?_)
    rcases turn i n H3 w3 with ⟨stop, qn⟩ | ⟨go, N2, hN, step⟩
    · refine wpAny_bind (thnF (T.done X rfl rfl rfl hc i pins s3 _ H3 (fun _ _ => False) I3 (stat fr3) st3 stop) fun r s4 hr => ?_)
      obtain ⟨hr, I4⟩ := hr
      subst hr
      exact wpAny_pure (fin s4 H3 I4 qn)
    · refine wpAny_bind (thnF (T.item X rfl rfl rfl hc i pins s3 _ H3 (fun _ _ => False) I3 (stat fr3) st3 go) fun r s4 hr => ?_)
      obtain ⟨u, hr, h4⟩ := hr
      subst hr
      refine wpAny_bind (thnF h4 fun _ s5 h5 => ?_)
      obtain ⟨x, H5, I5, r5, y5, st5, fr5⟩ := h5
      have I5' := I5.pinned (stat fr5) (T.obj _ _ st5)
      have kg := pg.run _ s5 _ H5 x u _ I5' r5 (step x H5 y5)
      rw [hx] at kg
      refine wpAny_bind (thnF kg fun _ s6 h6 => ?_)
      obtain ⟨σ6, H6, I6, hw6, q6⟩ := h6
      have kt := pt.run _ s6 σ6 H6 _ I6 q6
      rw [hx] at kt
      refine wpAny_bind (thnF kt fun b s7 h7 => ?_)
      obtain ⟨H7, I7, q7⟩ := h7
      have again : ∀ {s' : Shared} {H' : Hp}, Inv X (pins ++ pinsAt fp s5.heap) σ6 H' s' → N2 H' → ∃ m, m < n ∧ ∃ i H', Inv X pins (wipe σ vs2) H' s' ∧ tn i s'.heap ∧ (∀ b ∈ fp, H' b = none) ∧ W i m H' := fun {s' H'} I' n7 => by
        obtain ⟨m', hm, w7⟩ := hN H' n7
        have hl : (wipe σ vs2).length = σ6.length := by rw [← hw6, wipe_length]
        refine ⟨m', hm, i + 1, H', (I'.unpinned (pins := pins)).weak hl (fun j v e => ?_), T.keep _ _ _ st5 fun b hb o e => (I'.pin (b, o) (List.mem_append_right _ (List.mem_append_right _ (mem_pinsAt hb e)))).1, fun b hb => ?_, w7⟩
        · rw [← hw6] at e
          exact (wipe_some e).1
        · obtain ⟨o, e, d⟩ := T.obj _ _ st5 b hb
          exact (I'.pin (b, o) (List.mem_append_right _ (List.mem_append_right _ (mem_pinsAt hb e)))).2.1
      cases b with
      | false =>
        simp only [Bool.false_eq_true, if_false] at q7 ⊢
        exact wpAny_pure ⟨rfl, again I7 q7⟩
      | true =>
        simp only [if_true] at q7 ⊢
        have ke := pe.run _ s7 σ6 H7 _ I7 q7
        rw [hx] at ke
        refine wpAny_bind (wpAny_bind (thnF ke fun z s8 h8 => ?_))
        obtain ⟨yv, H8, I8, r8, acc, hD8, hz8, nx⟩ := h8
        exact wpAny_bind (app_ok (X := X) I8 hD8 hz8 r8 fun s9 I9 => wpAny_pure (wpAny_pure ⟨rfl, again I9 nx⟩))
  exact compStart_list2_in loop (T.self X.A 0 _ _ _ st2 loop)
theorem lc2_core {own : List (Str × Nat)} (hc : X.calm = true) (hN : X.N.Nodup) (first : PI X t1 it1 wi1) (ok : BlkOk X.N X.env.scope scope own) (sub : ∀ j ∈ vs2, j ∈ own.map (·.2))
    (P1 : ∀ (s : Shared) (H : Hp) (C : Addr) (cl : List (Str × Addr)) (fp : List Addr), PG (X.blk s H scope (compEnvC scope cl C X.env) fp) t1 g1) (C1 : ∀ (s : Shared) (H : Hp) (C : Addr) (cl : List (Str × Addr)) (fp : List Addr), PTs (X.blk s H scope (compEnvC scope cl C X.env) fp) ifs1 tt1)
    (I2 : ∀ (s : Shared) (H : Hp) (C : Addr) (cl : List (Str × Addr)) (fp : List Addr), PI (X.blk s H scope (compEnvC scope cl C X.env) fp) t2 it2 wi2)
    (P2 : ∀ (s : Shared) (H : Hp) (C : Addr) (cl : List (Str × Addr)) (fp : List Addr), PG (X.blk s H scope (compEnvC scope cl C X.env) fp) t2 g2) (C2 : ∀ (s : Shared) (H : Hp) (C : Addr) (cl : List (Str × Addr)) (fp : List Addr), PTs (X.blk s H scope (compEnvC scope cl C X.env) fp) ifs2 tt2)
    (el : ∀ (s : Shared) (H : Hp) (C : Addr) (cl : List (Str × Addr)) (fp : List Addr), PE (X.blk s H scope (compEnvC scope cl C X.env) fp) elt te)
    (h1 : ∀ x, foldedSetIterable it1 X.env x = pure x ) (h2 : ∀ (C : Addr) (cl : List (Str × Addr)) x, foldedSetIterable it2 (compEnvC scope cl C X.env) x = pure x ) {pins : List (Addr × Obj)} {s : Shared} {σ : L2.St} {H : Hp} {Q : VK} {use : Option (Value → Sem Unit)} {Qf : Value → Shared → Prop} (I : Inv X pins σ H s) (rd : tLc2 wi1 g1 tt1 wi2 g2 tt2 te (own.map (·.2)) vs2 σ H Q)
    (behind : ∀ D C s' m H', Inv X pins σ H' s' → Q (.ref D) H' → s'.heap.Ns C m → FpOk X pins H' C → compPost (model X.prog X.w) X.A X.xe use Qf (.ref D) C (.ok .next) s') :
    wpAny (model X.prog X.w) X.A (comprehension (.ListComp elt [⟨t1, it1, ifs1, 0⟩, ⟨t2, it2, ifs2, 0⟩] scope pos) scope X.env (firstIterPos [⟨t1, it1, ifs1, 0⟩, ⟨t2, it2, ifs2, 0⟩] pos) (newList []) false (eval it1 X.env) use) Qf X.xe s := by
  have closed : ∀ y ∈ scope.names, y.2 = .free → ∃ c, X.env.cells.lookup y.1 = some c := fun y hy e =>
    (ok.free y hy e).elim (fun k => I.ok.has _ (.inl k)) (fun k => I.ok.has _ (.inr k))
  refine wpAny_comprehension_free (use := use) rfl h1 (closure_ok closed) ok.kind (fun y hy e => by rw [ok.uniq y hy, e]) (thn (first.run pins s σ H _ I rd) fun xv sA hA => thn hA fun itv sB hB => ?_)
  obtain ⟨it, fp, tn, J, HB, rfl, IB, T, stB, fB, q⟩ := hB
  refine wpAny_newObj_type (newEnv_comp ?_) (by show 0 ≤ sizeLine; decide)
  generalize hD : sB.heap.objs.size = D
  have noD : HB D = none := IB.hok.fresh (Nat.le_of_eq hD)
  obtain ⟨W, ⟨m0, w0⟩, turn⟩ := q D noD
  generalize hs3 : ({ sB with heap := sB.heap.push { cls := .type "list", data := .seq ([] : List Value).toArray } } : Shared) = s3
  have I3 : Inv X pins σ (upd HB D (.lst [])) s3 := by
    rw [← hs3]
    exact IB.laid (t' := sB.toks) (fun b o e => Heap.get?_push_of_some _ e) (Nat.le_of_eq hD) ⟨Nat.zero_le _, [], 0, .nil, by rw [← hD]; exact Heap.get?_push_size _ rfl⟩
  have h3 : s3.heap = sB.heap.push { cls := .type "list", data := .seq ([] : List Value).toArray } := by rw [← hs3]
  have f3 : ∀ b ∈ fp, FpOk X pins (upd HB D (.lst [])) b ∧ b < s3.heap.objs.size := fun b hb => by
    obtain ⟨o, e, _⟩ := T.obj _ _ stB b hb
    have lt : b < sB.heap.objs.size := Heap.lt_size e
    have ne : b ≠ D := by rw [← hD]; exact Nat.ne_of_lt lt
    exact ⟨⟨by rw [upd_ne ne]; exact (fB b hb).1, (fB b hb).2⟩, by rw [h3, Heap.size_push]; exact Nat.lt_succ_of_lt lt⟩
  have st3 : tn 0 s3.heap := T.keep _ _ _ stB fun b _ o e => by rw [h3]; exact Heap.get?_push_of_some _ e
  have I4 := block_start I3 ok hN f3
  have p1 := P1 s3 (upd HB D (.lst [])) s3.heap.objs.size (cellsFrom (s3.heap.objs.size + 1) scope.names (cloFrom X.env.cells scope.names [])) fp
  have c1 := C1 s3 (upd HB D (.lst [])) s3.heap.objs.size (cellsFrom (s3.heap.objs.size + 1) scope.names (cloFrom X.env.cells scope.names [])) fp
  have i2 := I2 s3 (upd HB D (.lst [])) s3.heap.objs.size (cellsFrom (s3.heap.objs.size + 1) scope.names (cloFrom X.env.cells scope.names [])) fp
  have p2 := P2 s3 (upd HB D (.lst [])) s3.heap.objs.size (cellsFrom (s3.heap.objs.size + 1) scope.names (cloFrom X.env.cells scope.names [])) fp
  have c2 := C2 s3 (upd HB D (.lst [])) s3.heap.objs.size (cellsFrom (s3.heap.objs.size + 1) scope.names (cloFrom X.env.cells scope.names [])) fp
  have e2 := el s3 (upd HB D (.lst [])) s3.heap.objs.size (cellsFrom (s3.heap.objs.size + 1) scope.names (cloFrom X.env.cells scope.names [])) fp
  have fold2 := h2 s3.heap.objs.size (cellsFrom (s3.heap.objs.size + 1) scope.names (cloFrom X.env.cells scope.names []))
  show codeAny _ _ (.compStart (.ListComp elt [⟨t1, it1, ifs1, 0⟩, ⟨t2, it2, ifs2, 0⟩] scope pos) 0 (.ref it) (.ref D) (compEnvC scope (cellsFrom (s3.heap.objs.size + 1) scope.names (cloFrom X.env.cells scope.names [])) s3.heap.objs.size X.env)) (compPost (model X.prog X.w) X.A X.xe use Qf (.ref D) s3.heap.objs.size) { s3 with heap := pushCells (s3.heap.push { cls := .type "dict", data := .dict #[] }) scope.names }
  have nfp : ∀ b ∈ fp, (upd HB D (.lst [])) b = none := fun b hb => (f3 b hb).1.1
  generalize hce : compEnvC scope (cellsFrom (s3.heap.objs.size + 1) scope.names (cloFrom X.env.cells scope.names [])) s3.heap.objs.size X.env = ce at I4 p1 c1 i2 p2 c2 e2 fold2 ⊢
  have cL : ce.locals = s3.heap.objs.size := by subst hce; rfl
  generalize hH3 : upd HB D (.lst []) = H3 at I3 I4 p1 c1 i2 p2 c2 e2 w0 nfp f3
  generalize hs4 : ({ s3 with heap := pushCells (s3.heap.push { cls := .type "dict", data := .dict #[] }) scope.names } : Shared) = s4 at I4 ⊢
  have st4 : tn 0 s4.heap := T.keep _ _ _ st3 fun b _ o e => by rw [← hs4]; exact pushCells_keeps _ _ _ _ (Heap.get?_push_of_some _ e)
  have stat : ∀ {σ' : L2.St} {H' : Hp} {s' : Shared}, Inv (X.blk s3 H3 scope ce fp) [] σ' H' s' → (∀ b ∈ fp, H' b = none) → ∀ b ∈ fp, FpOk (X.blk s3 H3 scope ce fp) [] H' b := fun {σ' H' s'} I' hn b hb =>
    ⟨hn b hb, (I'.ok.exf b hb).1, I'.ok.exfs b hb, .inl hb, fun x c e => (I'.ok.exf b hb).2 x c e, fun p hp => absurd (show p ∈ ([] : List (Addr × Obj)) ++ [] from hp) (by simp)⟩
  have loop : codeAny (model X.prog X.w) X.A (.compLoop (.ListComp elt [⟨t1, it1, ifs1, 0⟩, ⟨t2, it2, ifs2, 0⟩] scope pos) 0 (.ref it) (.ref D) ce) (compPost (model X.prog X.w) X.A X.xe use Qf (.ref D) s3.heap.objs.size) s4 := by
    refine codeAny_loop rfl (fun n s' => ∃ i H', Inv (X.blk s3 H3 scope ce fp) [] (wipe σ (own.map (·.2))) H' s' ∧ tn i s'.heap ∧ (∀ b ∈ fp, H' b = none) ∧ W i n H') ?_ m0 ⟨0, H3, I4, st4, nfp, w0⟩
    rintro n s5 ⟨i, H5, I5, st5, n5, w5⟩
    show wpAny _ X.A ((compTurn (.ListComp elt [⟨t1, it1, ifs1, 0⟩, ⟨t2, it2, ifs2, 0⟩] scope pos) 0 (.ref it) (.ref D) ce).onRaise (fun x => do noteFrame x ce; theTreesLotGoes x)) _ _ s5
    refine wpAny_noted ?_
    rw [compTurn_list2_out]
    refine wpAny_bind (wpAny_standAt ?_)
    rcases turn i n H5 w5 with ⟨stop, qq⟩ | ⟨go, Nx, hNx, step⟩
    · refine wpAny_bind (thnF (T.done (X.blk s3 H3 scope ce fp) rfl rfl rfl hc i [] s5 _ H5 (fun _ _ => False) I5 (stat I5 n5) st5 stop) fun r s6 hr => ?_)
      obtain ⟨hr, I6⟩ := hr
      subst hr
      refine wpAny_pure ?_
      have I7 : Inv X pins σ H5 s6 := I3.call' (ch := fp) I6.os I6.base I6.hok I6.bare fun b hb => ⟨(f3 b hb).1.2.2.2.1, (f3 b hb).1.2.1, (f3 b hb).1.2.2.2.2.1, (f3 b hb).1.2.2.2.2.2⟩
      have nC : H5 s3.heap.objs.size = none := by
        have z : H5 ce.locals = none := I6.free
        rw [cL] at z
        exact z
      obtain ⟨m, hn, _⟩ := I6.loc
      have hn : s6.heap.Ns ce.locals m := hn
      rw [cL] at hn
      exact behind D s3.heap.objs.size s6 m H5 I7 qq hn (I3.fpOk (Nat.le_refl _) nC)
    · refine wpAny_bind (thnF (T.item (X.blk s3 H3 scope ce fp) rfl rfl rfl hc i [] s5 _ H5 (fun _ _ => False) I5 (stat I5 n5) st5 go) fun r s6 hr => ?_)
      obtain ⟨u, hr, h6⟩ := hr
      subst hr
      refine wpAny_bind (thnF h6 fun _ s7 h7 => ?_)
      obtain ⟨x, H7, I7, r7, y7, st7, n7⟩ := h7
      have I7' := I7.pinned (stat I7 n7) (T.obj _ _ st7)
      refine wpAny_bind (thnF (p1.run _ s7 _ H7 x u _ I7' r7 (step x H7 y7)) fun _ s8 h8 => ?_)
      obtain ⟨σ8, H8, I8, hw8, q8⟩ := h8
      refine wpAny_bind (thnF (c1.run _ s8 σ8 H8 _ I8 q8) fun b s9 h9 => ?_)
      obtain ⟨H9, I9, q9⟩ := h9
      have back : ∀ {s' : Shared} {σ' : L2.St} {H' : Hp}, Inv (X.blk s3 H3 scope ce fp) ([] ++ pinsAt fp s7.heap) σ' H' s' → (wipe σ (own.map (·.2))).length = σ'.length → (∀ (j : Nat) (v : V), (wipe σ (own.map (·.2)))[j]? = some (some v) → σ'[j]? = some (some v)) → Nx H' →
          ∃ m, m < n ∧ ∃ i H', Inv (X.blk s3 H3 scope ce fp) [] (wipe σ (own.map (·.2))) H' s' ∧ tn i s'.heap ∧ (∀ b ∈ fp, H' b = none) ∧ W i m H' := fun {s' σ' H'} I' hl hv nx => by
        obtain ⟨m', hm, w'⟩ := hNx H' nx
        refine ⟨m', hm, i + 1, H', (I'.unpinned (pins := [])).weak hl hv, T.keep _ _ _ st7 fun b hb o e => (I'.pin (b, o) (List.mem_append_right _ (List.mem_append_right _ (mem_pinsAt hb e)))).1, fun b hb => ?_, w'⟩
        obtain ⟨o, e, _⟩ := T.obj _ _ st7 b hb
        exact (I'.pin (b, o) (List.mem_append_right _ (List.mem_append_right _ (mem_pinsAt hb e)))).2.1
      have hl8 : (wipe σ (own.map (·.2))).length = σ8.length := by rw [← hw8, wipe_length]
      cases b with
      | false =>
        simp only [Bool.false_eq_true, if_false] at q9 ⊢
        exact wpAny_pure ⟨rfl, back I9 hl8 (fun j v e => by rw [← hw8] at e; exact (wipe_some e).1) q9⟩
      | true =>
        simp only [if_true] at q9 ⊢
        refine wpAny_bind (thnF (lc2_in (X := X.blk s3 H3 scope ce fp) (t1 := t1) (it1 := it1) (ifs1 := ifs1) (scope := scope) (pos := pos) rfl hc i2 p2 c2 e2 I9 q9) fun xv s10 h10 => ?_)
        refine wpAny_bind (wpAny_standAt (wpAny_bind (wpAny_of_eq (fold2 xv) ?_)))
        refine wpAny_bind (wpAny_holding (thnF h10 fun itv s11 h11 => ?_))
        refine wpAny_bind (wpAny_runOwn ?_)
        refine h11 _ fun s' H' I' nx => ?_
        refine wpAny_pure ⟨rfl, back I' (by rw [wipe_length, wipe_length]; rw [wipe_length] at hl8; exact hl8) (fun j v e => ?_) nx⟩
        rw [← hw8] at e
        have z := wipe_some e
        rw [wipe_out fun hj => z.2 (sub j hj)]
        exact z.1
  exact codeAny_compStart_list loop (T.self X.A 0 _ _ _ st4 loop)
/-- [elt for t1 in it1 if .. for t2 in it2 if ..] -/
theorem pe_lc2 {own : List (Str × Nat)} (hc : X.calm = true) (hN : X.N.Nodup) (first : PI X t1 it1 wi1) (ok : BlkOk X.N X.env.scope scope own) (sub : ∀ j ∈ vs2, j ∈ own.map (·.2))
    (P1 : ∀ (s : Shared) (H : Hp) (C : Addr) (cl : List (Str × Addr)) (fp : List Addr), PG (X.blk s H scope (compEnvC scope cl C X.env) fp) t1 g1) (C1 : ∀ (s : Shared) (H : Hp) (C : Addr) (cl : List (Str × Addr)) (fp : List Addr), PTs (X.blk s H scope (compEnvC scope cl C X.env) fp) ifs1 tt1)
    (I2 : ∀ (s : Shared) (H : Hp) (C : Addr) (cl : List (Str × Addr)) (fp : List Addr), PI (X.blk s H scope (compEnvC scope cl C X.env) fp) t2 it2 wi2)
    (P2 : ∀ (s : Shared) (H : Hp) (C : Addr) (cl : List (Str × Addr)) (fp : List Addr), PG (X.blk s H scope (compEnvC scope cl C X.env) fp) t2 g2) (C2 : ∀ (s : Shared) (H : Hp) (C : Addr) (cl : List (Str × Addr)) (fp : List Addr), PTs (X.blk s H scope (compEnvC scope cl C X.env) fp) ifs2 tt2)
    (el : ∀ (s : Shared) (H : Hp) (C : Addr) (cl : List (Str × Addr)) (fp : List Addr), PE (X.blk s H scope (compEnvC scope cl C X.env) fp) elt te)
    (h1 : ∀ x, foldedSetIterable it1 X.env x = pure x := by intro _; rfl) (h2 : ∀ (C : Addr) (cl : List (Str × Addr)) x, foldedSetIterable it2 (compEnvC scope cl C X.env) x = pure x := by intro _ _ _; rfl) :
    PE X (.ListComp elt [⟨t1, it1, ifs1, 0⟩, ⟨t2, it2, ifs2, 0⟩] scope pos) (tLc2 wi1 g1 tt1 wi2 g2 tt2 te (own.map (·.2)) vs2) := by
  refine ⟨fun pins s σ H Q I rd => ?_⟩
  rw [eval_ListComp]
  refine lc2_core hc hN first ok sub P1 C1 I2 P2 C2 el h1 h2 I rd fun D C s' m H' I' q hn f => ⟨m, hn, fun h'' sb => ?_⟩
  obtain ⟨f0, f1, f2, f3, f4, f5⟩ := f
  exact ⟨.ref D, H', I'.turned (t' := s'.toks) (fun b o hb e => (sb.2 b hb).trans e) f0 f1 f3 f4 f5, rfl, q⟩
/-- name = [..] on one row, the name a local -/
theorem ps_setLc2 {i : Nat} {y : Str} {py spos : Pos} {own : List (Str × Nat)} (hc : X.calm = true) (hN : X.N.Nodup) (hy : X.N[i]? = some y) (hyl : X.env.scope.names.lookup y = some .local)
    (hsw : swapsWith (.ListComp elt [⟨t1, it1, ifs1, 0⟩, ⟨t2, it2, ifs2, 0⟩] scope pos) (some (.Name y py)) spos.line X.env = pure true) (first : PI X t1 it1 wi1) (ok : BlkOk X.N X.env.scope scope own) (sub : ∀ j ∈ vs2, j ∈ own.map (·.2))
    (P1 : ∀ (s : Shared) (H : Hp) (C : Addr) (cl : List (Str × Addr)) (fp : List Addr), PG (X.blk s H scope (compEnvC scope cl C X.env) fp) t1 g1) (C1 : ∀ (s : Shared) (H : Hp) (C : Addr) (cl : List (Str × Addr)) (fp : List Addr), PTs (X.blk s H scope (compEnvC scope cl C X.env) fp) ifs1 tt1)
    (I2 : ∀ (s : Shared) (H : Hp) (C : Addr) (cl : List (Str × Addr)) (fp : List Addr), PI (X.blk s H scope (compEnvC scope cl C X.env) fp) t2 it2 wi2)
    (P2 : ∀ (s : Shared) (H : Hp) (C : Addr) (cl : List (Str × Addr)) (fp : List Addr), PG (X.blk s H scope (compEnvC scope cl C X.env) fp) t2 g2) (C2 : ∀ (s : Shared) (H : Hp) (C : Addr) (cl : List (Str × Addr)) (fp : List Addr), PTs (X.blk s H scope (compEnvC scope cl C X.env) fp) ifs2 tt2)
    (el : ∀ (s : Shared) (H : Hp) (C : Addr) (cl : List (Str × Addr)) (fp : List Addr), PE (X.blk s H scope (compEnvC scope cl C X.env) fp) elt te)
    (h1 : ∀ x, foldedSetIterable it1 X.env x = pure x := by intro _; rfl) (h2 : ∀ (C : Addr) (cl : List (Str × Addr)) x, foldedSetIterable it2 (compEnvC scope cl C X.env) x = pure x := by intro _ _ _; rfl) :
    PS X (.Assign [.Name y py] (.ListComp elt [⟨t1, it1, ifs1, 0⟩, ⟨t2, it2, ifs2, 0⟩] scope pos) spos) (tAsg (tLc2 wi1 g1 tt1 wi2 g2 tt2 te (own.map (·.2)) vs2) (gName i)) := by
  refine ⟨fun pins s σ H D I h => ?_⟩
  rw [exec_Assign_Name_used _ _ _ _ hsw]
  refine wpAny_bind (wpAny_standAt (wpAny_bind ?_))
  show wpAny _ X.A (do let _ ← comprehension (.ListComp elt [⟨t1, it1, ifs1, 0⟩, ⟨t2, it2, ifs2, 0⟩] scope pos) scope X.env (firstIterPos [⟨t1, it1, ifs1, 0⟩, ⟨t2, it2, ifs2, 0⟩] pos) (newList []) false (eval it1 X.env) (some (assign (.Name y py) X.env))) _ _ s
  have h : tLc2 wi1 g1 tt1 wi2 g2 tt2 te (own.map (·.2)) vs2 σ H (fun x H1 => gName i x σ H1 D.nx) := h
  refine wpAny_bind (thn (lc2_core (Qf := fun _ s' => SP X pins D .next s') hc hN first ok sub P1 C1 I2 P2 C2 el h1 h2 I h fun L C s' m H' I' q hn f => ?_) fun _ s' hq => wpAny_pure (wpAny_pure hq))
  show wpAny _ _ (assign (.Name y py) X.env (.ref L)) _ _ _
  refine wpAny_assign_Name (store_ok2 (v := V.ref L) I' hN hy (.inl hyl) rfl (fun s2 J ⟨a, sb, ha⟩ => ?_) (.inr hyl))
  obtain ⟨f0, f1, f2, f3, f4, f5⟩ := f
  have ne : C ≠ a := ha.elim (fun z => by rw [z]; exact f1) fun z e => f4 y a z e.symm
  exact ⟨m, hn.sameBut sb ne, fun h3 sb3 => ⟨_, H', J.turned (t' := s2.toks) (fun b o hb e => (sb3.2 b hb).trans e) f0 f1 f3 f4 f5, q⟩⟩
end
end My

set_option Elab.async false
set_option linter.all false
set_option maxRecDepth 100000
set_option maxHeartbeats 4000000
/-! ### [te for p in range(m) for q in range(n)] -/
namespace My
open PySem L2
theorem it_range {m : Nat} {W0 : Hp → Prop} (Pv : Nat → Hp → Prop) {H : Hp} (h0 : Pv 0 H) {Nx : Hp → Prop} {g : TG} {tt : TT} {te : TE} {vs : List Nat} {σ : L2.St} {D : Addr}
    (step : ∀ i H', i < m → Pv i H' → g (.int (i : Nat)) (wipe σ vs) H' fun σ2 H2 => wipe σ2 vs = wipe σ vs ∧ tt σ2 H2 fun b H3 => if b = true then te σ2 H3 fun y H4 => ∃ acc, H4 D = some (.lst acc) ∧ acc.length < sizeLine ∧ Pv (i + 1) (upd H4 D (.lst (acc ++ [y]))) else Pv (i + 1) H3)
    (fin : ∀ H', Pv m H' → Nx H') : ∃ W : Nat → Nat → Hp → Prop, (∃ k, W 0 k H) ∧ ∀ i k H, W i k H →
  ((Itr 0 m).stop i H ∧ Nx H) ∨ ((Itr 0 m).go i H ∧ ∃ N2 : Hp → Prop, (∀ H', N2 H' → ∃ m', m' < k ∧ W (i + 1) m' H') ∧ ∀ x H', (Itr 0 m).yld i H x H' → g x (wipe σ vs) H' fun σ2 H2 => wipe σ2 vs = wipe σ vs ∧ tt σ2 H2 fun b H3 =>
    if b = true then te σ2 H3 fun y H4 => ∃ acc, H4 D = some (.lst acc) ∧ acc.length < sizeLine ∧ N2 (upd H4 D (.lst (acc ++ [y]))) else N2 H3) := by
  refine ⟨fun i k H => k + i = m ∧ Pv i H, ⟨m, rfl, h0⟩, fun i k H h => ?_⟩
  obtain ⟨e, p⟩ := h
  rcases Nat.lt_or_ge i m with lt | ge
  · refine .inr ⟨lt, Pv (i + 1), fun H' p' => ⟨k - 1, by omega, by omega, p'⟩, fun x H' y => ?_⟩
    obtain ⟨rfl, rfl⟩ := y
    rw [Int.zero_add]
    exact step i H' lt p
  · have z : i = m := by omega
    exact .inl ⟨by subst z; first | rfl | exact Nat.le_refl _, fin H (by rw [← z]; exact p)⟩
theorem lc2Rg {ta tb : TA} {te : TE} {σ : L2.St} {H : Hp} {Q : VK} {p q : Nat} (m n : Nat) (hm : m ≤ 1000) (hn : n ≤ 1000) (Pv : Addr → Nat → Nat → Hp → Prop)
    (ha : ∀ R : List V → Hp → Prop, R [.int (m : Nat)] H → ta σ H R)
    (hb : ∀ (D : Addr) (i : Nat) (H' : Hp) (R : List V → Hp → Prop), H D = none → i < m → Pv D i 0 H' → R [.int (n : Nat)] H' → tb ((wipe σ [p, q]).set p (some (.int (i : Nat)))) H' R)
    (hw1 : ∀ x, wipe ((wipe σ [p, q]).set p (some x)) [p, q] = wipe σ [p, q])
    (hw2 : ∀ x y, wipe ((wipe ((wipe σ [p, q]).set p (some x)) [q]).set q (some y)) [q] = wipe ((wipe σ [p, q]).set p (some x)) [q])
    (h0 : ∀ D, H D = none → Pv D 0 0 (upd H D (.lst [])))
    (body : ∀ (D : Addr) (i j : Nat) (H' : Hp), H D = none → i < m → j < n → Pv D i j H' → te ((wipe ((wipe σ [p, q]).set p (some (.int (i : Nat)))) [q]).set q (some (.int (j : Nat)))) H' fun y H4 => ∃ acc, H4 D = some (.lst acc) ∧ acc.length < sizeLine ∧ Pv D i (j + 1) (upd H4 D (.lst (acc ++ [y]))))
    (nextRow : ∀ (D : Addr) (i : Nat) (H' : Hp), Pv D i n H' → Pv D (i + 1) 0 H') (fin : ∀ D H', H D = none → Pv D m 0 H' → Q (.ref D) H') :
    tLc2 (iRng1 ta) (gName p) tYes (iRng1 tb) (gName q) tYes te [p, q] [q] σ H Q := by
  refine ha _ ⟨(m : Nat), rfl, by omega, by omega, fun D nD => ?_⟩
  rw [Int.toNat_natCast]
  refine ⟨fun i k H' => k + i = m ∧ Pv D i 0 H', ⟨m, rfl, h0 D nD⟩, fun i k H1 h => ?_⟩
  obtain ⟨e, pv⟩ := h
  rcases Nat.lt_or_ge i m with lt | ge
  · refine .inr ⟨lt, Pv D (i + 1) 0, fun H' p' => ⟨k - 1, by omega, by omega, p'⟩, fun x H' y => ?_⟩
    obtain ⟨rfl, rfl⟩ := y
    rw [Int.zero_add]
    refine ⟨hw1 _, ?_⟩
    simp only [tYes, if_true]
    refine hb D i H' _ nD lt pv ⟨(n : Nat), rfl, by omega, by omega, ?_⟩
    rw [Int.toNat_natCast]
    exact it_range (W0 := fun _ => True) (Pv D i) pv (fun j H2 hj pj => ⟨hw2 _ _, body D i j H2 nD lt hj pj⟩) fun H2 pj => nextRow D i H2 pj
  · have z : i = m := by omega
    exact .inl ⟨by subst z; first | rfl | exact Nat.le_refl _, fin D H1 nD (by rw [← z]; exact pv)⟩
end My

set_option Elab.async false
set_option linter.all false
set_option maxRecDepth 100000
set_option maxHeartbeats 4000000
/-! ### x op y of own instances within a try -/
namespace My
open PySem PySem.Spec PyProof.Rows L2
def tOpS (C : Addr) (sp : Sp) (E : L2.St → XK) (ta tb : TE) : TE := fun σ H Q => ta σ H fun x H1 => tb σ H1 fun y H2 => rBinO C sp (E σ) x y H2 Q
section
variable {X : Cx} {CX : CXT} {C g : Addr} {fd : FuncData} {ps : List Str} {sp : Sp} {E : L2.St → XK} {k : Nat} {a b : Expr} {ta tb : TE} {pos : Pos}
theorem pe_opS {op : Operator} (c : BinC X.K C g op) (F : FnOk X.prog X.w X.K X.mg X.base CX k g fd ps sp) (hb : Binds X.K fd ps []) (hr : Room k X.A) (hx : ∀ σ, PassesAt CX X σ (E σ)) (h1 : PE X a ta) (h2 : PE X b tb) : PE X (.BinOp a op b pos) (tOpS C sp E ta tb) := by
  refine ⟨fun pins s σ H Q I h => ?_⟩
  refine wpAny_BinOp (binT h1 h2 I h fun v u s2 x y H2 I2 rx ry q => ?_)
  obtain ⟨p, dx, fs, r, dy, gs, rfl, rfl, hp, hr', q⟩ := q
  cases rx
  cases ry
  obtain ⟨ox, od, J⟩ := inst_of I2 hp
  obtain ⟨oy, ody, J'⟩ := inst_of I2 hr'
  obtain ⟨m, hF⟩ := I2.fr
  refine PySem.W.binop_K hF I2.ok.mod.kin J J'.type c.one c.at_ c.fn ?_
  refine thn (run_fnS (us := [.ref p, .ref r]) (vs := [.ref p, .ref r]) F hr hb (hx σ) I2 (.cons rfl (.cons rfl .nil)) q) ?_
  rintro w s' ⟨z, H', I', rz, qz⟩
  exact SlX.cmpback rz ⟨z, H', I', rz, qz⟩
end
end My

set_option Elab.async false
set_option linter.all false
set_option maxRecDepth 100000
set_option maxHeartbeats 4000000
/-! ### slices of mapped lists -/
namespace My
open PySem L2
theorem cut_ij {α : Type} {f : α → V} {ts : List α} {i j : Nat} (h : i ≤ j) : cutV (ts.map f) (some (i : Int)) (some (j : Int)) = ((ts.drop i).take (j - i)).map f := by
  unfold cutV
  rw [HT.sIx_nat, HT.sIx_nat, List.length_map, ← List.map_drop, ← List.map_take]
  congr 1
  rcases Nat.le_total i ts.length with z | z
  · rw [Nat.min_eq_left z]
    rcases Nat.le_total j ts.length with z2 | z2
    · rw [Nat.min_eq_left z2]
    · rw [Nat.min_eq_right z2, List.take_of_length_le (by rw [List.length_drop]; omega), List.take_of_length_le (by rw [List.length_drop]; omega)]
  · rw [Nat.min_eq_right z, List.drop_length, List.drop_of_length_le z]; simp
theorem cut_0j {α : Type} {f : α → V} {ts : List α} {j : Nat} : cutV (ts.map f) none (some (j : Int)) = (ts.take j).map f := by
  have := cut_ij (f := f) (ts := ts) (Nat.zero_le j)
  rw [List.drop_zero, Nat.sub_zero] at this
  exact this
theorem cut_i {α : Type} {f : α → V} {ts : List α} {i : Nat} : cutV (ts.map f) (some (i : Int)) none = (ts.drop i).map f := by
  unfold cutV
  rw [HT.sIx_nat, ← List.map_drop, ← List.map_take]
  congr 1
  show (ts.drop (min i (ts.map f).length)).take ((ts.map f).length - _) = _
  rw [List.length_map]
  rcases Nat.le_total i ts.length with z | z
  · rw [Nat.min_eq_left z, List.take_of_length_le (by rw [List.length_drop]; omega)]
  · rw [Nat.min_eq_right z, List.drop_length, List.drop_of_length_le z]; simp
end My

set_option Elab.async false
set_option linter.all false
set_option maxRecDepth 100000
set_option maxHeartbeats 4000000
/-! ### methods and called objects within a try -/
namespace My
open PySem L2 StX PySem.Spec PyProof.Rows
def tMethT (C : Addr) (m : Str) (sp : Sp) (E : L2.St → XK) (ta : TE) (t : TA) : TE := fun σ H Q => ta σ H fun x H1 => ∃ a dx fs, x = .ref a ∧ H1 a = some (.ins C dx fs) ∧ fs.lookup m = none ∧ t σ H1 fun vs H2 => sp (.ref a :: vs) H2 Q (E σ)
section
variable {X : Cx} {CX : CXT} {C g : Addr} {fd : FuncData} {ps : List Str} {sp : Sp} {E : L2.St → XK} {k : Nat} {o e : Expr} {es : List Expr} {ta : TE} {t : TA} {pos apos : Pos} {m : Str} {f : Addr}
theorem pe_methT {pl : Sem Bool} (c : Cls X.K C) (hm : Meth X.K C m f) (F : FnOk X.prog X.w X.K X.mg X.base CX k f fd ps sp) (hr : Room k X.A) (hb : Binds X.K fd ps []) (hx : ∀ σ, PassesAt CX X σ (E σ)) (he : PE X o ta) (ha : PA X (e :: es) t)
    (hst : starEach (e :: es) X.env = (false, eval e X.env) :: starEach es X.env := by rfl) (hpl : (backTo pos (starEach es X.env)).any (·.1) = false := by rfl)
    (ht : eval (.Call (.Attribute o m apos) (e :: es) [] pos) X.env = (do
      let ov ← eval o X.env
      standAt apos.atName
      let (f, first) ← holding [ov] (getMethod ov m pl)
      callWith pos f first (backTo pos (starEach (e :: es) X.env)) (backToKw pos (keywordEach [] X.env))) := by rfl) :
    PE X (.Call (.Attribute o m apos) (e :: es) [] pos) (tMethT C m sp E ta t) := by
  refine ⟨fun pins s σ H Q I h => ?_⟩
  refine PySem.W.methodCall_KW (pl := pl) (thn (he.run pins s σ H _ I h) fun u s1 ⟨x, H1, I1, rx, a, dx, fs, ex, ea, l, q⟩ => ?_) ht
  subst ex
  obtain rfl : u = Value.ref a := rx
  refine getmeth_ok I1 ea c hm l ?_
  refine PySem.W.callWith_K (first := [.ref a]) (h₀ := X.base) I.ok.mod.kin hm.kp (thn (ha.run pos pins s1 σ H1 _ I1 q) fun us s2 ⟨vs, H2, I2, r, q2⟩ => ⟨I2.kIn, ?_⟩) hst hpl
  exact run_fnS (us := .ref a :: us) (vs := .ref a :: vs) F hr hb (hx σ) I2 (.cons rfl r) q2
def tCallOT (C : Addr) (sp : Sp) (E : L2.St → XK) (tf : TE) (t : TA) : TE := fun σ H Q => tf σ H fun y H1 => ∃ a, y = V.ref a ∧ t σ H1 fun vs H2 => (∃ dx fs, H2 a = some (.ins C dx fs)) ∧ sp (V.ref a :: vs) H2 Q (E σ)
theorem run_fnRS {pins : List (Addr × Obj)} {σ : L2.St} {H : Hp} {s : Shared} {f : Addr} {Q : VK} {E : L2.St → XK} {us : List Value} {vs : List V} (F : FnR X.prog X.w X.K X.mg X.base CX k f sp) (hr : Room k X.A) (hx : PassesAt CX X σ (E σ)) (I : Inv X pins σ H s) (r : Vals vs us) (h : sp vs H Q (E σ)) :
    codeAny (model X.prog X.w) X.A (.call (.ref f) ⟨us, []⟩) (fun r s' => match r with | .ok (.ret v) => EP X pins σ Q v s' | .ok _ => False | .error e => X.xe e s') s := by
  refine codeAny_mono (F X.A X.stack s H us vs Q (E σ) hr I.env0 r h) fun r s' hq => ?_
  cases r with
  | error e => exact hx pins H s e s' I hq
  | ok fl =>
    cases fl with
    | ret u => exact I.after hq
    | next => exact False.elim hq
    | brk => exact False.elim hq
    | cont => exact False.elim hq
theorem pe_callOT {fe : Expr} {tf : TE} (c : CallO X.K C g) (F : FnR X.prog X.w X.K X.mg X.base CX k g sp) (hr : Room k X.A) (hx : ∀ σ, PassesAt CX X σ (E σ)) (hf : PE X fe tf) (ha : PA X (e :: es) t)
    (ht : eval (.Call fe (e :: es) [] pos) X.env = (do callWith pos (← eval fe X.env) [] (backTo pos (starEach (e :: es) X.env)) (backToKw pos (keywordEach [] X.env))) := by rfl)
    (he : starEach (e :: es) X.env = (false, eval e X.env) :: starEach es X.env := by rfl) (hpl : (backTo pos (starEach es X.env)).any (·.1) = false := by rfl) : PE X (.Call fe (e :: es) [] pos) (tCallOT C sp E tf t) := by
  refine ⟨fun pins s σ H Q I h => ?_⟩
  refine Call_ (thn (hf.run pins s σ H _ I h) fun u s1 ⟨y, H1, I1, ry, a, ey, q⟩ => ?_) ht
  subst ey
  obtain rfl : u = Value.ref a := ry
  refine callO_with (thn (ha.run pos pins s1 σ H1 _ I1 q) fun us s2 ⟨vs, H2, I2, r, hi, q2⟩ => ?_) he hpl
  obtain ⟨ox, od, J, hd⟩ := insC_at I2 (.inr hi)
  exact ⟨⟨C, ox, od, J, hd⟩, wpAny_call (PySem.W.kco_code I2.kIn J hd c.at_ c.fn c.fi (run_fnRS (us := .ref a :: us) (vs := .ref a :: vs) F hr (hx σ) I2 (.cons rfl r) q2))⟩
end
end My

set_option Elab.async false
set_option linter.all false
set_option maxRecDepth 100000
set_option maxHeartbeats 4000000
/-! ### a quiet def, whatever exception is handled around its call -/
namespace My
open PySem PySem.Spec PyProof.Rows L2
structure RoomZ (k : Nat) (A : Around) : Prop where
  dep : A.depth + 3 * k + 5 < recursionLimit
  uni : A.units + 16 * k + 200 < cLine
/-- the room behind a mark is that ahead of it -/
theorem roomZ_mark {k : Nat} {A : Around} {v : Option Value} (r : Room k A) : RoomZ k (A.mark v) := ⟨r.dp, r.un⟩
def cxZ (CX : CXT) (P : Program) (w : World) (K : PySem.W.Frag) (mg : Str → Option Value) (base : Heap) (N : List Str) (qual : Str) (sc : Scope) (f : Addr) (cd : Value) (A : Around) (outer : List Env) (s : Shared) (H : Hp) (E : XK) : Cx := { cxOf CX P w K mg base N qual sc f cd A outer s H E with calm := false }
structure FnZ (P : Program) (w : World) (K : PySem.W.Frag) (mg : Str → Option Value) (base : Heap) (CX : CXT) (k : Nat) (f : Addr) (fd : FuncData) (ps : List Str) (sp : Sp) : Prop where
  len : ∀ vs H Q E, sp vs H Q E → vs.length = ps.length
  run : ∀ (A : Around) (outer : List Env) (s : Shared) (H : Hp) (ar : Args) (us : List Value) (vs : List V) (Q : VK) (E : XK), RoomZ k A → Env0 P w K mg base A outer s H → BindsTo s fd ar (ps.zip us) → Vals vs us → sp vs H Q E → codeAny (model P w) A (.call (.ref f) ar) (CR CX outer P w H s Q E) s
section
variable {CX : CXT} {P : Program} {w : World} {K : PySem.W.Frag} {mg : Str → Option Value} {base : Heap} {N ps : List Str} {qual : Str} {sc : Scope} {f : Addr} {cd : Value} {k : Nat} {sp : Sp}
theorem e0_free {A : Around} {outer : List Env} {s : Shared} {H : Hp} (e : Env0 P w K mg base A outer s H) : Env0 P w K mg base { A with handled := none } outer s H := ⟨e.frames, e.mod, e.bs, e.bsz, e.funs, e.frf, e.hok, e.bare⟩
theorem inv_startZ {A : Around} {outer : List Env} {s s1 : Shared} {H : Hp} {E : XK} {us : List Value} {vs : List V} (S : FnScope N ps sc) (e0 : Env0 P w K mg base A outer s H) (hl : vs.length = ps.length) (r : Vals vs us)
    (x : InCallC s s.heap.objs.size (bindL (envOfC qual sc s.heap.objs.size f cd).kindOf (ps.zip us) fun _ => none) (cellsFrom (s.heap.objs.size + 1) sc.names []) (bindC (envOfC qual sc s.heap.objs.size f cd).kindOf (ps.zip us) fun _ => none) s1) : Inv (cxZ CX P w K mg base N qual sc f cd A outer s H E) [] (L2.start N vs) H s1 := by
  have J := inv_start (CX := CX) (E := E) (A := { A with handled := none }) S rfl (e0_free e0) hl r x
  have o := J.ok
  exact ⟨⟨o.mod, o.kind, o.glob, o.blt, o.above, o.inj, o.has, o.cab, fun z => (by cases z), Around.frames_deeper e0.frames, o.stk, o.exf, o.bs, o.bsz, o.noex, o.exfs, o.funs, o.frf⟩, J.os, J.bare, J.base, J.loc, J.cell, J.free, J.freeC, J.pin, J.hok, J.len⟩
theorem fn_ofZ {name : Str} {params : Arguments} {body : List Stmt} {dV kV doc pm ct oc : Value} {an od : Option Addr} {osl : Array (Option Value)} (lk : K.lookup f = some ⟨oc, od, .func (PySem.W.fnOf name qual params body sc dV kV doc pm an cd ct), osl⟩) (hcd : PySem.W.codeIn K cd qual = true) (S : FnScope N ps sc)
    (len : ∀ vs H Q E, sp vs H Q E → vs.length = ps.length)
    (todo : ∀ (A : Around) (outer : List Env) (s : Shared) (H : Hp) (vs : List V) (Q : VK) (E : XK), sp vs H Q E → ∃ t, PSs (cxZ CX P w K mg base N qual sc f cd A outer s H E) body t ∧ t { nx := fun _ H' => Q .non H', rt := Q } (L2.start N vs) H) :
    FnZ P w K mg base CX (k + 1) f (PySem.W.fnOf name qual params body sc dV kV doc pm an cd ct) ps sp := by
  refine ⟨len, fun A outer s H ar us vs Q E room e0 bnd vals hsp => ?_⟩
  have kin : K.In s.heap := e0.mod.kin.keeps fun b o z => (e0.bs b o z).1
  have nolim : s.heap.NoLimit := e0.mod.nolimit.keeps fun b o z => (e0.bs b o z).1
  have dep : A.depth < recursionLimit := by
    have := room.dep
    omega
  refine codeAny_call_function dep (kin _ _ lk) rfl S.co S.gen rfl (PySem.W.codeRec_of kin hcd) (bnd _ _ _ _ ?_)
  have kinds : ∀ y ∈ ps.zip us, sc.names.lookup y.1 = some .local ∨ (sc.names.lookup y.1 = some .cell ∧ ((cellsFrom (s.heap.objs.size + 1) sc.names []).lookup y.1).isSome = true) := fun ⟨n, v⟩ hy =>
    (S.par n (List.of_mem_zip hy).1).imp id fun z => ⟨z, PySem.W.cellsFrom_some _ _ _ (.inl z)⟩
  refine wpAny_newFunctionEnv_cells S.kind kinds fun env he s1 x => ?_
  cases he
  refine ⟨nolim.keeps x.toInCall.keep, codeAny_func ?_⟩
  obtain ⟨t, ht, hq⟩ := todo A outer s H vs Q E hsp
  have I := inv_startZ (CX := CX) (E := E) (cd := cd) S e0 (len _ _ _ _ hsp) vals x
  refine wpAny_mono (ht.run [] s1 (L2.start N vs) H _ I hq) (fun fl s' done => ?_) fun e s' z => z
  cases fl with
  | ret u =>
    obtain ⟨v, σ', H', J, rv, z⟩ := done
    exact ⟨v, H', J.os, J.bare, J.base, J.hok, rv, z⟩
  | next =>
    obtain ⟨σ', H', J, z⟩ := done
    exact ⟨V.non, H', J.os, J.bare, J.base, J.hok, rfl, z⟩
  | brk => obtain ⟨_, _, _, z⟩ := done; exact z.elim
  | cont => obtain ⟨_, _, _, z⟩ := done; exact z.elim
end
section
variable {X : Cx} {CX : CXT} {k : Nat} {f : Addr} {fd : FuncData} {ps : List Str} {sp : Sp} {E : L2.St → XK} {x : Str} {q pos : Pos} {e : Expr} {es : List Expr} {t : TA}
theorem pe_callZ (F : FnZ X.prog X.w X.K X.mg X.base CX k f fd ps sp) (hr : RoomZ k X.A) (hg : Gl X x) (hm : X.mg x = some (.ref f)) (hk : PySem.W.keepIn X.K (.ref f) = true) (hb : Binds X.K fd ps []) (hx : ∀ σ, PassesAt CX X σ (E σ))
    (ha : PA X (e :: es) t) (hdb : (x == ("__debug__" : Str)) = false := by decide) (he : starEach (e :: es) X.env = (false, eval e X.env) :: starEach es X.env := by rfl) (hpl : (backTo pos (starEach es X.env)).any (·.1) = false := by rfl) : PE X (.Call (.Name x q) (e :: es) [] pos) (tCallS sp E t) := by
  refine ⟨fun pins s σ H Q I h => wpAny_Call_Name_kw (ld_glob I hg hm (PySem.W.callWith_K (h₀ := X.base) I.ok.mod.kin hk (thn (ha.run pos pins s σ H _ I h) fun us s1 ⟨vs, H1, I1, r, z⟩ => ⟨I1.kIn, ?_⟩) he hpl) hdb)⟩
  have hl : us.length = ps.length := r.length.symm.trans (F.len _ _ _ _ z)
  have b := hb s1 us I1.kIn (by rw [List.append_nil]; exact hl)
  rw [List.append_nil] at b
  refine wpAny_call (codeAny_mono (F.run X.A X.stack s1 H1 ⟨us, []⟩ us vs Q (E σ) hr I1.env0 b r z) fun r s' hq => ?_)
  cases r with
  | error e => exact hx σ pins H1 s1 e s' I1 hq
  | ok fl => cases fl with
    | ret u => exact I1.after hq
    | next => exact hq.elim
    | brk => exact hq.elim
    | cont => exact hq.elim
end
end My

set_option Elab.async false
set_option linter.all false
set_option maxRecDepth 100000
set_option maxHeartbeats 4000000
namespace My
open PySem L2
def top (i : Nat) : Stmt := PySem.Challenge.pw_coretower_k13_table_tells.main.body.getD i (.Pass ⟨0, 0, 0, 0⟩)
abbrev s_is_name : Stmt := top 9
theorem sc_is_name : FnScope ["value", "letter"] ["value"] (defScope s_is_name) := ⟨rfl, rfl, rfl, by decide +kernel, rfl, by decide +kernel, by decide +kernel⟩
abbrev s_is_below : Stmt := top 10
theorem sc_is_below : FnScope ["value", "bound"] ["value", "bound"] (defScope s_is_below) := ⟨rfl, rfl, rfl, by decide +kernel, rfl, by decide +kernel, by decide +kernel⟩
abbrev s_is_number : Stmt := top 11
theorem sc_is_number : FnScope ["value"] ["value"] (defScope s_is_number) := ⟨rfl, rfl, rfl, by decide +kernel, rfl, by decide +kernel, by decide +kernel⟩
abbrev s_is_pair : Stmt := top 18
theorem sc_is_pair : FnScope ["pair", "size", "answer", "state"] ["pair", "size"] (defScope s_is_pair) := ⟨rfl, rfl, rfl, by decide +kernel, rfl, by decide +kernel, by decide +kernel⟩
abbrev s_is_row : Stmt := top 17
theorem sc_is_row : FnScope ["row", "pair"] ["row"] (defScope s_is_row) := ⟨rfl, rfl, rfl, by decide +kernel, rfl, by decide +kernel, by decide +kernel⟩
abbrev s_check_rows : Stmt := top 16
theorem sc_check_rows : FnScope ["rows", "first_row", "name"] ["rows"] (defScope s_check_rows) := ⟨rfl, rfl, rfl, by decide +kernel, rfl, by decide +kernel, by decide +kernel⟩
def lets : Str := "abcdefghijklmnopqrstuvwxyz"
def lowC (c : Nat) : Bool := decide (97 ≤ c) && decide (c ≤ 122)
def nameS (z : Str) : Bool := decide (1 ≤ z.length) && (decide (z.length ≤ 8) && z.cps.toList.all lowC)
def nameD : PyData → Bool
  | .str z => nameS z
  | _ => false
def belowD (m : Int) : PyData → Bool
  | .int i => decide (0 ≤ i) && decide (i < m)
  | _ => false
mutual
def szD : PyData → Bool
  | .str z => decide (z.length ≤ 1000)
  | .tuple ds => szAll ds
  | .list ds => szAll ds
  | _ => true
def szAll : List PyData → Bool
  | [] => true
  | d :: ds => szD d && szAll ds
end
theorem szAll_mem : ∀ {ds : List PyData}, szAll ds = true → ∀ d ∈ ds, szD d = true
  | d :: ds, h, e, he => by
    have h' : (szD d && szAll ds) = true := h
    rw [Bool.and_eq_true] at h'
    rcases List.mem_cons.mp he with rfl | he
    · exact h'.1
    · exact szAll_mem h'.2 e he
structure Bt (mg : Str → Option Value) (tL t1 t2 : Tok) : Prop where
  b_isinstance : mg "isinstance" = none
  b_str : mg "str" = none
  b_int : mg "int" = none
  b_bool : mg "bool" = none
  b_tuple : mg "tuple" = none
  b_list : mg "list" = none
  b_len : mg "len" = none
  b_all : mg "all" = none
  c_LETTERS : mg "LETTERS" = some (.str lets tL)
  c_MOST_STATES : mg "MOST_STATES" = some (.int 100 t1)
  c_MOST_OPERATIONS : mg "MOST_OPERATIONS" = some (.int 6 t2)
/-- the promise of a test of data -/
def spD (pre : PyData → Prop) (f : PyData → Bool) : Sp := fun vs H Q _ => ∃ (v : V) (d : PyData), vs = [v] ∧ Dq H v d ∧ szD d = true ∧ pre d ∧ ∀ H', Kp [] H H' → Q (.bl (f d)) H'
def LowIn (z : Str) (D : Addr) (H : Hp) (i : Nat) (H' : Hp) : Prop := H' D = some (.lst ((z.cps.toList.take i).map fun c => V.bl (lowC c))) ∧ Kp [] H H'
theorem lets_mem (c : Nat) : decide (c ∈ lets.cps.toList) = lowC c := by
  have e : lets.cps.toList = (List.range 26).map (97 + ·) := by decide +kernel
  rw [e, Bool.eq_iff_iff, decide_eq_true_eq]
  unfold lowC
  rw [Bool.and_eq_true, decide_eq_true_eq, decide_eq_true_eq, List.mem_map]
  constructor
  · rintro ⟨i, hi, rfl⟩
    have := List.mem_range.mp hi
    omega
  · rintro ⟨h1, h2⟩
    exact ⟨c - 97, List.mem_range.mpr (by omega), by omega⟩
theorem all_take {α : Type} {f : α → Bool} {l : List α} : ((l.map fun c => f c).all id) = l.all f := by
  rw [List.all_map]; rfl
theorem take_snoc {α : Type} {l : List α} {i : Nat} {x : α} (h : l[i]? = some x) : l.take (i + 1) = l.take i ++ [x] := by
  rw [List.take_add_one, h]; rfl
section
variable {P : Program} {w : World} {K : PySem.W.Frag} {mg : Str → Option Value} {base : Heap} {tL t1 t2 : Tok}
theorem ok_is_name {f : Addr} {fd : FuncData} (D : Df K mg "is_name" s_is_name ["value"] f fd) (T : Bt mg tL t1 t2) : FnOk P w K mg base CX0 1 f fd ["value"] (spD (fun _ => True) nameD) := by
  refine D.F.ok sc_is_name (fun vs H Q E h => ?_) (fun cdv A outer s H vs Q E hr h => ?_)
  · obtain ⟨a, m, rfl, _⟩ := h
    rfl
  · obtain ⟨v, d, rfl, hd, sz, _, q⟩ := h
    have hu := hu_of hr
    refine ⟨_, (pss_cons (ps_if (pt_not (pt_val (pe_callB (id := "isinstance") (r := rIsi K) call_isi (by rfl) T.b_isinstance (by decide +kernel) (pa_cons (pv 0) (pa_cons (pe_bltn (v := .ty "str") (by rfl) T.b_str (by decide +kernel) rfl) pa_nil))))) (pss_one (ps_ret pe_bl)) pss_nil)
      (pss_one (ps_ret (pe_and (pe_chain op_le op_le pe_int (pe_callB (id := "len") call_len_str (by rfl) T.b_len PySem.boot_len (pa_cons (pv 0) pa_nil)) pe_int) (pe_one (pe_callB (id := "all") (r := rAll K) (cr_all rfl) (by rfl) T.b_all (by decide +kernel) (pa_cons (pe_lc (own := [("letter", 1)]) (g := (gName 1)) (tt := tYes) rfl sc_is_name.nd (pi_str (pv 0)) (blkOk_by (N := ["value", "letter"]) (sc := defScope s_is_name) (by decide +kernel)) (fun _ _ _ _ _ => (pg_name (i := 1) sc_is_name.nd rfl (Or.inl rfl))) (fun _ _ _ _ _ => pts_nil) (fun _ _ _ _ _ => (pe_cmpR op_in_sign (pv 1) (pe_glob (v := .str lets) rfl T.c_LETTERS ⟨_, rfl⟩) (by rfl)))) pa_nil))))))), ?_⟩
    try simp only [tSeq, tIfS, tTest, tOp, tUn, tCB, tCons, tNil, tVar, tC, rI0, rI, rU, rEq, rNe, tRet, tRetN, tAsg, gName, gSub, tBM, tBM0, tNext, tB, tNot, tAnd, tOr, tIf, tCall, tDrop, tBreak, tCont, L2.start, tDGet, sDPut, tTup, tLst, tDNewK, tRevL, rCat, rAppend, rPop, rSetL, tAndV, tOrV, tNotV, tSl, tPart, tNoPart, tM1, gTup, gCons, gNil, cxK, cxnK, List.map_cons, List.map_nil, List.length_cons, List.length_nil, List.replicate, List.cons_append, List.nil_append, List.append_nil, List.set_cons_zero, List.set_cons_succ, List.getElem?_cons_zero, List.getElem?_cons_succ, Option.some.injEq, V.ref.injEq, V.int.injEq, V.str.injEq, V.bl.injEq, V.ty.injEq, exists_eq_left', exists_eq_left, exists_and_left, List.cons.injEq, and_true, true_and, sc_ii, sc_ss, sc_bb, sc_ni, sc_in, sc_is, sc_si, sc_nn, decide_true, decide_false, reduceCtorEq, Bool.false_eq_true, if_true, if_false, ite_true, ite_false, exists_const, eq_self, false_and, and_false, or_false, false_or, exists_false, Evl.rLenS, rSum, wipe, tYes, exists_eq, exists_eq', rIxL, rIxT, rIxS, exists_and_right, gt_iff_lt, not_true_eq_false, not_false_eq_true, Bool.not_true, Bool.not_false, decide_eq_true_eq, Nat.reduceSub, Nat.reduceAdd, List.append_assoc, tChain, tDIn, tDNotIn, sDDel, tAug, ipI]
    refine isi_Dstr hd ?_
    try simp only [tSeq, tIfS, tTest, tOp, tUn, tCB, tCons, tNil, tVar, tC, rI0, rI, rU, rEq, rNe, tRet, tRetN, tAsg, gName, gSub, tBM, tBM0, tNext, tB, tNot, tAnd, tOr, tIf, tCall, tDrop, tBreak, tCont, L2.start, tDGet, sDPut, tTup, tLst, tDNewK, tRevL, rCat, rAppend, rPop, rSetL, tAndV, tOrV, tNotV, tSl, tPart, tNoPart, tM1, gTup, gCons, gNil, cxK, cxnK, List.map_cons, List.map_nil, List.length_cons, List.length_nil, List.replicate, List.cons_append, List.nil_append, List.append_nil, List.set_cons_zero, List.set_cons_succ, List.getElem?_cons_zero, List.getElem?_cons_succ, Option.some.injEq, V.ref.injEq, V.int.injEq, V.str.injEq, V.bl.injEq, V.ty.injEq, exists_eq_left', exists_eq_left, exists_and_left, List.cons.injEq, and_true, true_and, sc_ii, sc_ss, sc_bb, sc_ni, sc_in, sc_is, sc_si, sc_nn, decide_true, decide_false, reduceCtorEq, Bool.false_eq_true, if_true, if_false, ite_true, ite_false, exists_const, eq_self, false_and, and_false, or_false, false_or, exists_false, Evl.rLenS, rSum, wipe, tYes, exists_eq, exists_eq', rIxL, rIxT, rIxS, exists_and_right, gt_iff_lt, not_true_eq_false, not_false_eq_true, Bool.not_true, Bool.not_false, decide_eq_true_eq, Nat.reduceSub, Nat.reduceAdd, List.append_assoc, tChain, tDIn, tDNotIn, sDDel, tAug, ipI]
    cases hd with
    | str z =>
      try simp only [tSeq, tIfS, tTest, tOp, tUn, tCB, tCons, tNil, tVar, tC, rI0, rI, rU, rEq, rNe, tRet, tRetN, tAsg, gName, gSub, tBM, tBM0, tNext, tB, tNot, tAnd, tOr, tIf, tCall, tDrop, tBreak, tCont, L2.start, tDGet, sDPut, tTup, tLst, tDNewK, tRevL, rCat, rAppend, rPop, rSetL, tAndV, tOrV, tNotV, tSl, tPart, tNoPart, tM1, gTup, gCons, gNil, cxK, cxnK, List.map_cons, List.map_nil, List.length_cons, List.length_nil, List.replicate, List.cons_append, List.nil_append, List.append_nil, List.set_cons_zero, List.set_cons_succ, List.getElem?_cons_zero, List.getElem?_cons_succ, Option.some.injEq, V.ref.injEq, V.int.injEq, V.str.injEq, V.bl.injEq, V.ty.injEq, exists_eq_left', exists_eq_left, exists_and_left, List.cons.injEq, and_true, true_and, sc_ii, sc_ss, sc_bb, sc_ni, sc_in, sc_is, sc_si, sc_nn, decide_true, decide_false, reduceCtorEq, Bool.false_eq_true, if_true, if_false, ite_true, ite_false, exists_const, eq_self, false_and, and_false, or_false, false_or, exists_false, Evl.rLenS, rSum, wipe, tYes, exists_eq, exists_eq', rIxL, rIxT, rIxS, exists_and_right, gt_iff_lt, not_true_eq_false, not_false_eq_true, Bool.not_true, Bool.not_false, decide_eq_true_eq, Nat.reduceSub, Nat.reduceAdd, List.append_assoc, tChain, tDIn, tDNotIn, sDDel, tAug, ipI, isStrD]
      have zs : z.cps.toList.length = z.length := Array.length_toList
      have zl : z.length ≤ 1000 := of_decide_eq_true sz
      have q' : ∀ H', Kp [] H H' → Q (.bl (nameS z)) H' := q
      unfold nameS at q'
      refine ⟨small (by omega), ?_⟩
      by_cases h1 : 1 ≤ z.length
      · by_cases h8 : z.length ≤ 8
        · have e1 : (1 : Int) ≤ (z.length : Nat) := by omega
          have e8 : ((z.length : Nat) : Int) ≤ 8 := by omega
          rw [decide_eq_true h1, decide_eq_true h8] at q'
          rw [if_pos e1, if_pos e8]
          refine ⟨.str z, rfl, z, rfl, fun o no => lc_it walk_str (LowIn z o H) ⟨upd_same, Kp.new no⟩ (fun _ _ _ _ => True.intro) ?_ ?_⟩
          · rintro i x H1 H2 hi ⟨ho, kp⟩ ⟨rfl, c, hc, rfl⟩
            try simp only [tSeq, tIfS, tTest, tOp, tUn, tCB, tCons, tNil, tVar, tC, rI0, rI, rU, rEq, rNe, tRet, tRetN, tAsg, gName, gSub, tBM, tBM0, tNext, tB, tNot, tAnd, tOr, tIf, tCall, tDrop, tBreak, tCont, L2.start, tDGet, sDPut, tTup, tLst, tDNewK, tRevL, rCat, rAppend, rPop, rSetL, tAndV, tOrV, tNotV, tSl, tPart, tNoPart, tM1, gTup, gCons, gNil, cxK, cxnK, List.map_cons, List.map_nil, List.length_cons, List.length_nil, List.replicate, List.cons_append, List.nil_append, List.append_nil, List.set_cons_zero, List.set_cons_succ, List.getElem?_cons_zero, List.getElem?_cons_succ, Option.some.injEq, V.ref.injEq, V.int.injEq, V.str.injEq, V.bl.injEq, V.ty.injEq, exists_eq_left', exists_eq_left, exists_and_left, List.cons.injEq, and_true, true_and, sc_ii, sc_ss, sc_bb, sc_ni, sc_in, sc_is, sc_si, sc_nn, decide_true, decide_false, reduceCtorEq, Bool.false_eq_true, if_true, if_false, ite_true, ite_false, exists_const, eq_self, false_and, and_false, or_false, false_or, exists_false, Evl.rLenS, rSum, wipe, tYes, exists_eq, exists_eq', rIxL, rIxT, rIxS, exists_and_right, gt_iff_lt, not_true_eq_false, not_false_eq_true, Bool.not_true, Bool.not_false, decide_eq_true_eq, Nat.reduceSub, Nat.reduceAdd, List.append_assoc, tChain, tDIn, tDNotIn, sDDel, tAug, ipI]
            refine ⟨c, rfl, _, ho, ?_, ?_, kp.wr no⟩
            · rw [List.length_map, List.length_take, zs]; exact smallL (by omega)
            · rw [upd_same, lets_mem, take_snoc (x := c) (by rw [← hc]; simp), List.map_append]; rfl
          · rintro H1 ⟨ho, kp⟩
            have q2 := q' H1 kp
            rw [← all_take] at q2
            refine ⟨_, z.cps.toList.map lowC, rfl, sq_l (ho.trans ?_), ?_⟩
            · rw [List.take_of_length_le (by simp), List.map_map]; rfl
            · simpa using q2
        · have e1 : (1 : Int) ≤ (z.length : Nat) := by omega
          have e8 : ¬ ((z.length : Nat) : Int) ≤ 8 := by omega
          rw [decide_eq_true h1, decide_eq_false h8] at q'
          rw [if_pos e1, if_neg e8]
          exact q' _ (Kp.refl _ _)
      · have e1 : ¬ (1 : Int) ≤ (z.length : Nat) := by omega
        rw [decide_eq_false h1] at q'
        rw [if_neg e1]
        exact q' _ (Kp.refl _ _)
    | _ => exact q H (Kp.refl _ _)

def spBelow : Sp := fun vs H Q _ => ∃ (v : V) (d : PyData) (m : Int), vs = [v, .int m] ∧ Dq H v d ∧ Q (.bl (belowD m d)) H
theorem ok_is_below {f : Addr} {fd : FuncData} (D : Df K mg "is_below" s_is_below ["value", "bound"] f fd) (T : Bt mg tL t1 t2) : FnOk P w K mg base CX0 1 f fd ["value", "bound"] spBelow := by
  refine D.F.ok sc_is_below (fun vs H Q E h => ?_) (fun cdv A outer s H vs Q E hr h => ?_)
  · obtain ⟨v, d, m, rfl, _⟩ := h
    rfl
  · obtain ⟨v, d, m, rfl, hd, q⟩ := h
    refine ⟨_, (pss_one (ps_ret (pe_and (pe_callB (id := "isinstance") (r := rIsi K) call_isi (by rfl) T.b_isinstance (by decide +kernel) (pa_cons (pv 0) (pa_cons (pe_bltn (v := .ty "int") (by rfl) T.b_int (by decide +kernel) rfl) pa_nil))) (pe_and (pe_not (pe_callB (id := "isinstance") (r := rIsi K) call_isi (by rfl) T.b_isinstance (by decide +kernel) (pa_cons (pv 0) (pa_cons (pe_bltn (v := .ty "bool") (by rfl) T.b_bool (by decide +kernel) rfl) pa_nil)))) (pe_one (pe_chain op_le op_lt pe_int (pv 0) (pv 1))))))), ?_⟩
    try simp only [tSeq, tIfS, tTest, tOp, tUn, tCB, tCons, tNil, tVar, tC, rI0, rI, rU, rEq, rNe, tRet, tRetN, tAsg, gName, gSub, tBM, tBM0, tNext, tB, tNot, tAnd, tOr, tIf, tCall, tDrop, tBreak, tCont, L2.start, tDGet, sDPut, tTup, tLst, tDNewK, tRevL, rCat, rAppend, rPop, rSetL, tAndV, tOrV, tNotV, tSl, tPart, tNoPart, tM1, gTup, gCons, gNil, cxK, cxnK, List.map_cons, List.map_nil, List.length_cons, List.length_nil, List.replicate, List.cons_append, List.nil_append, List.append_nil, List.set_cons_zero, List.set_cons_succ, List.getElem?_cons_zero, List.getElem?_cons_succ, Option.some.injEq, V.ref.injEq, V.int.injEq, V.str.injEq, V.bl.injEq, V.ty.injEq, exists_eq_left', exists_eq_left, exists_and_left, List.cons.injEq, and_true, true_and, sc_ii, sc_ss, sc_bb, sc_ni, sc_in, sc_is, sc_si, sc_nn, decide_true, decide_false, reduceCtorEq, Bool.false_eq_true, if_true, if_false, ite_true, ite_false, exists_const, eq_self, false_and, and_false, or_false, false_or, exists_false, Evl.rLenS, rSum, wipe, tYes, exists_eq, exists_eq', rIxL, rIxT, rIxS, exists_and_right, gt_iff_lt, not_true_eq_false, not_false_eq_true, Bool.not_true, Bool.not_false, decide_eq_true_eq, Nat.reduceSub, Nat.reduceAdd, List.append_assoc, tChain, tDIn, tDNotIn, sDDel, tAug, ipI]
    refine isi_Dint hd ?_
    cases hd with
    | int i =>
      try simp only [tSeq, tIfS, tTest, tOp, tUn, tCB, tCons, tNil, tVar, tC, rI0, rI, rU, rEq, rNe, tRet, tRetN, tAsg, gName, gSub, tBM, tBM0, tNext, tB, tNot, tAnd, tOr, tIf, tCall, tDrop, tBreak, tCont, L2.start, tDGet, sDPut, tTup, tLst, tDNewK, tRevL, rCat, rAppend, rPop, rSetL, tAndV, tOrV, tNotV, tSl, tPart, tNoPart, tM1, gTup, gCons, gNil, cxK, cxnK, List.map_cons, List.map_nil, List.length_cons, List.length_nil, List.replicate, List.cons_append, List.nil_append, List.append_nil, List.set_cons_zero, List.set_cons_succ, List.getElem?_cons_zero, List.getElem?_cons_succ, Option.some.injEq, V.ref.injEq, V.int.injEq, V.str.injEq, V.bl.injEq, V.ty.injEq, exists_eq_left', exists_eq_left, exists_and_left, List.cons.injEq, and_true, true_and, sc_ii, sc_ss, sc_bb, sc_ni, sc_in, sc_is, sc_si, sc_nn, decide_true, decide_false, reduceCtorEq, Bool.false_eq_true, if_true, if_false, ite_true, ite_false, exists_const, eq_self, false_and, and_false, or_false, false_or, exists_false, Evl.rLenS, rSum, wipe, tYes, exists_eq, exists_eq', rIxL, rIxT, rIxS, exists_and_right, gt_iff_lt, not_true_eq_false, not_false_eq_true, Bool.not_true, Bool.not_false, decide_eq_true_eq, Nat.reduceSub, Nat.reduceAdd, List.append_assoc, tChain, tDIn, tDNotIn, sDDel, tAug, ipI, isIntD]
      refine isi_int_bool ?_
      try simp only [tSeq, tIfS, tTest, tOp, tUn, tCB, tCons, tNil, tVar, tC, rI0, rI, rU, rEq, rNe, tRet, tRetN, tAsg, gName, gSub, tBM, tBM0, tNext, tB, tNot, tAnd, tOr, tIf, tCall, tDrop, tBreak, tCont, L2.start, tDGet, sDPut, tTup, tLst, tDNewK, tRevL, rCat, rAppend, rPop, rSetL, tAndV, tOrV, tNotV, tSl, tPart, tNoPart, tM1, gTup, gCons, gNil, cxK, cxnK, List.map_cons, List.map_nil, List.length_cons, List.length_nil, List.replicate, List.cons_append, List.nil_append, List.append_nil, List.set_cons_zero, List.set_cons_succ, List.getElem?_cons_zero, List.getElem?_cons_succ, Option.some.injEq, V.ref.injEq, V.int.injEq, V.str.injEq, V.bl.injEq, V.ty.injEq, exists_eq_left', exists_eq_left, exists_and_left, List.cons.injEq, and_true, true_and, sc_ii, sc_ss, sc_bb, sc_ni, sc_in, sc_is, sc_si, sc_nn, decide_true, decide_false, reduceCtorEq, Bool.false_eq_true, if_true, if_false, ite_true, ite_false, exists_const, eq_self, false_and, and_false, or_false, false_or, exists_false, Evl.rLenS, rSum, wipe, tYes, exists_eq, exists_eq', rIxL, rIxT, rIxS, exists_and_right, gt_iff_lt, not_true_eq_false, not_false_eq_true, Bool.not_true, Bool.not_false, decide_eq_true_eq, Nat.reduceSub, Nat.reduceAdd, List.append_assoc, tChain, tDIn, tDNotIn, sDDel, tAug, ipI]
      by_cases h0 : 0 ≤ i
      · simp only [h0, decide_true, if_true]
        have q' : Q (.bl (decide (0 ≤ i) && decide (i < m))) H := q
        rw [decide_eq_true h0] at q'
        exact q'
      · simp only [h0, decide_false, Bool.false_eq_true, if_false]
        have q' : Q (.bl (decide (0 ≤ i) && decide (i < m))) H := q
        rw [decide_eq_false h0] at q'
        exact q'
    | bl b =>
      try simp only [tSeq, tIfS, tTest, tOp, tUn, tCB, tCons, tNil, tVar, tC, rI0, rI, rU, rEq, rNe, tRet, tRetN, tAsg, gName, gSub, tBM, tBM0, tNext, tB, tNot, tAnd, tOr, tIf, tCall, tDrop, tBreak, tCont, L2.start, tDGet, sDPut, tTup, tLst, tDNewK, tRevL, rCat, rAppend, rPop, rSetL, tAndV, tOrV, tNotV, tSl, tPart, tNoPart, tM1, gTup, gCons, gNil, cxK, cxnK, List.map_cons, List.map_nil, List.length_cons, List.length_nil, List.replicate, List.cons_append, List.nil_append, List.append_nil, List.set_cons_zero, List.set_cons_succ, List.getElem?_cons_zero, List.getElem?_cons_succ, Option.some.injEq, V.ref.injEq, V.int.injEq, V.str.injEq, V.bl.injEq, V.ty.injEq, exists_eq_left', exists_eq_left, exists_and_left, List.cons.injEq, and_true, true_and, sc_ii, sc_ss, sc_bb, sc_ni, sc_in, sc_is, sc_si, sc_nn, decide_true, decide_false, reduceCtorEq, Bool.false_eq_true, if_true, if_false, ite_true, ite_false, exists_const, eq_self, false_and, and_false, or_false, false_or, exists_false, Evl.rLenS, rSum, wipe, tYes, exists_eq, exists_eq', rIxL, rIxT, rIxS, exists_and_right, gt_iff_lt, not_true_eq_false, not_false_eq_true, Bool.not_true, Bool.not_false, decide_eq_true_eq, Nat.reduceSub, Nat.reduceAdd, List.append_assoc, tChain, tDIn, tDNotIn, sDDel, tAug, ipI, isIntD]
      refine isi_bl_bool ?_
      try simp only [tSeq, tIfS, tTest, tOp, tUn, tCB, tCons, tNil, tVar, tC, rI0, rI, rU, rEq, rNe, tRet, tRetN, tAsg, gName, gSub, tBM, tBM0, tNext, tB, tNot, tAnd, tOr, tIf, tCall, tDrop, tBreak, tCont, L2.start, tDGet, sDPut, tTup, tLst, tDNewK, tRevL, rCat, rAppend, rPop, rSetL, tAndV, tOrV, tNotV, tSl, tPart, tNoPart, tM1, gTup, gCons, gNil, cxK, cxnK, List.map_cons, List.map_nil, List.length_cons, List.length_nil, List.replicate, List.cons_append, List.nil_append, List.append_nil, List.set_cons_zero, List.set_cons_succ, List.getElem?_cons_zero, List.getElem?_cons_succ, Option.some.injEq, V.ref.injEq, V.int.injEq, V.str.injEq, V.bl.injEq, V.ty.injEq, exists_eq_left', exists_eq_left, exists_and_left, List.cons.injEq, and_true, true_and, sc_ii, sc_ss, sc_bb, sc_ni, sc_in, sc_is, sc_si, sc_nn, decide_true, decide_false, reduceCtorEq, Bool.false_eq_true, if_true, if_false, ite_true, ite_false, exists_const, eq_self, false_and, and_false, or_false, false_or, exists_false, Evl.rLenS, rSum, wipe, tYes, exists_eq, exists_eq', rIxL, rIxT, rIxS, exists_and_right, gt_iff_lt, not_true_eq_false, not_false_eq_true, Bool.not_true, Bool.not_false, decide_eq_true_eq, Nat.reduceSub, Nat.reduceAdd, List.append_assoc, tChain, tDIn, tDNotIn, sDDel, tAug, ipI]
      exact q
    | _ =>
      try simp only [tSeq, tIfS, tTest, tOp, tUn, tCB, tCons, tNil, tVar, tC, rI0, rI, rU, rEq, rNe, tRet, tRetN, tAsg, gName, gSub, tBM, tBM0, tNext, tB, tNot, tAnd, tOr, tIf, tCall, tDrop, tBreak, tCont, L2.start, tDGet, sDPut, tTup, tLst, tDNewK, tRevL, rCat, rAppend, rPop, rSetL, tAndV, tOrV, tNotV, tSl, tPart, tNoPart, tM1, gTup, gCons, gNil, cxK, cxnK, List.map_cons, List.map_nil, List.length_cons, List.length_nil, List.replicate, List.cons_append, List.nil_append, List.append_nil, List.set_cons_zero, List.set_cons_succ, List.getElem?_cons_zero, List.getElem?_cons_succ, Option.some.injEq, V.ref.injEq, V.int.injEq, V.str.injEq, V.bl.injEq, V.ty.injEq, exists_eq_left', exists_eq_left, exists_and_left, List.cons.injEq, and_true, true_and, sc_ii, sc_ss, sc_bb, sc_ni, sc_in, sc_is, sc_si, sc_nn, decide_true, decide_false, reduceCtorEq, Bool.false_eq_true, if_true, if_false, ite_true, ite_false, exists_const, eq_self, false_and, and_false, or_false, false_or, exists_false, Evl.rLenS, rSum, wipe, tYes, exists_eq, exists_eq', rIxL, rIxT, rIxS, exists_and_right, gt_iff_lt, not_true_eq_false, not_false_eq_true, Bool.not_true, Bool.not_false, decide_eq_true_eq, Nat.reduceSub, Nat.reduceAdd, List.append_assoc, tChain, tDIn, tDNotIn, sDDel, tAug, ipI, isIntD]
      exact q
theorem ok_is_number {f : Addr} {fd : FuncData} (D : Df K mg "is_number" s_is_number ["value"] f fd) (T : Bt mg tL t1 t2) {fb : Addr} {fdb : FuncData} (D_is_below : Df K mg "is_below" s_is_below ["value", "bound"] fb fdb) (G_is_below : FnOk P w K mg base CX0 1 fb fdb ["value", "bound"] spBelow) :
    FnOk P w K mg base CX0 2 f fd ["value"] (spD (fun _ => True) (belowD 10)) := by
  refine D.F.ok sc_is_number (fun vs H Q E h => ?_) (fun cdv A outer s H vs Q E hr h => ?_)
  · obtain ⟨v, d, rfl, _⟩ := h
    rfl
  · obtain ⟨v, d, rfl, hd, _, _, q⟩ := h
    refine ⟨_, (pss_one (ps_ret (pe_call G_is_below (hr.mono (by decide)) rfl D_is_below.g D_is_below.F.kp D_is_below.b .nil pass0 (pa_cons (pv 0) (pa_cons pe_int pa_nil))))), ?_⟩
    try simp only [tSeq, tIfS, tTest, tOp, tUn, tCB, tCons, tNil, tVar, tC, rI0, rI, rU, rEq, rNe, tRet, tRetN, tAsg, gName, gSub, tBM, tBM0, tNext, tB, tNot, tAnd, tOr, tIf, tCall, tDrop, tBreak, tCont, L2.start, tDGet, sDPut, tTup, tLst, tDNewK, tRevL, rCat, rAppend, rPop, rSetL, tAndV, tOrV, tNotV, tSl, tPart, tNoPart, tM1, gTup, gCons, gNil, cxK, cxnK, List.map_cons, List.map_nil, List.length_cons, List.length_nil, List.replicate, List.cons_append, List.nil_append, List.append_nil, List.set_cons_zero, List.set_cons_succ, List.getElem?_cons_zero, List.getElem?_cons_succ, Option.some.injEq, V.ref.injEq, V.int.injEq, V.str.injEq, V.bl.injEq, V.ty.injEq, exists_eq_left', exists_eq_left, exists_and_left, List.cons.injEq, and_true, true_and, sc_ii, sc_ss, sc_bb, sc_ni, sc_in, sc_is, sc_si, sc_nn, decide_true, decide_false, reduceCtorEq, Bool.false_eq_true, if_true, if_false, ite_true, ite_false, exists_const, eq_self, false_and, and_false, or_false, false_or, exists_false, Evl.rLenS, rSum, wipe, tYes, exists_eq, exists_eq', rIxL, rIxT, rIxS, exists_and_right, gt_iff_lt, not_true_eq_false, not_false_eq_true, Bool.not_true, Bool.not_false, decide_eq_true_eq, Nat.reduceSub, Nat.reduceAdd, List.append_assoc, tChain, tDIn, tDNotIn, sDDel, tAug, ipI]
    exact ⟨v, d, 10, rfl, hd, q H (Kp.refl _ _)⟩
/-- ahead of the i-th item of a row of data: what was told of those before stands in the new list -/
def AllIn {α : Type} (g : α → Bool) (ds : List α) (D : Addr) (H : Hp) (i : Nat) (H' : Hp) : Prop := H' D = some (.lst ((ds.take i).map fun d => V.bl (g d))) ∧ Kp [] H H'
theorem allIn_step {α : Type} {g : α → Bool} {ds : List α} {D : Addr} {H H1 H2 : Hp} {i : Nat} {d : α} (hn : H D = none) (h : AllIn g ds D H i H1) (k : Kp [] H1 H2) (e : ds[i]? = some d) (hl : ds.length ≤ 1000) :
    ∃ acc, H2 D = some (.lst acc) ∧ acc.length < sizeLine ∧ AllIn g ds D H (i + 1) (upd H2 D (.lst (acc ++ [V.bl (g d)]))) := by
  refine ⟨_, k _ _ not0 h.1, ?_, ?_, (h.2.trans k).wr hn⟩
  · rw [List.length_map, List.length_take]; exact smallL (by omega)
  · rw [upd_same, take_snoc e, List.map_append]; rfl
theorem allIn_end {α : Type} {K : PySem.W.Frag} {g : α → Bool} {ds : List α} {D : Addr} {H H1 : Hp} {Q : VK} (h : AllIn g ds D H ds.length H1) (q : Q (.bl (ds.all g)) H1) : rAll K [.ref D] H1 Q := by
  refine ⟨D, ds.map g, rfl, sq_l (h.1.trans ?_), ?_⟩
  · rw [List.take_length, List.map_map]; rfl
  · rw [all_take]; exact q
/-! ### pairs and rows of a table -/
def pairD (m : Int) : PyData → Bool
  | .tuple [a, s] => belowD 10 a && belowD m s
  | _ => false
def rowD : PyData → Bool
  | .list ds => decide (1 ≤ ds.length) && (decide (ds.length ≤ 100) && ds.all (pairD ds.length))
  | _ => false
def spPairD : Sp := fun vs H Q _ => ∃ (v : V) (d : PyData) (m : Int), vs = [v, .int m] ∧ Dq H v d ∧ szD d = true ∧ ∀ H', Kp [] H H' → Q (.bl (pairD m d)) H'
theorem ok_is_pair {f : Addr} {fd : FuncData} (D : Df K mg "is_pair" s_is_pair ["pair", "size"] f fd) (T : Bt mg tL t1 t2) {fb : Addr} {fdb : FuncData} (D_is_number : Df K mg "is_number" s_is_number ["value"] fb fdb) (G_is_number : FnOk P w K mg base CX0 2 fb fdb ["value"] (spD (fun _ => True) (belowD 10)))
    {fl : Addr} {fdl : FuncData} (D_is_below : Df K mg "is_below" s_is_below ["value", "bound"] fl fdl) (G_is_below : FnOk P w K mg base CX0 1 fl fdl ["value", "bound"] spBelow) : FnOk P w K mg base CX0 3 f fd ["pair", "size"] spPairD := by
  refine D.F.ok sc_is_pair (fun vs H Q E h => ?_) (fun cdv A outer s H vs Q E hr h => ?_)
  · obtain ⟨v, d, m, rfl, _⟩ := h
    rfl
  · obtain ⟨v, d, m, rfl, hd, sz, q⟩ := h
    refine ⟨_, (pss_cons (ps_if (PW.pt (pw_or (pt_not (pt_val (pe_callB (id := "isinstance") (r := rIsi K) call_isi (by rfl) T.b_isinstance (by decide +kernel) (pa_cons (pv 0) (pa_cons (pe_bltn (v := .ty "tuple") (by rfl) T.b_tuple (by decide +kernel) rfl) pa_nil))))) (pw_or1 (pt_cmpR op_ne (pe_callB (id := "len") (r := Evl.rLenS K) call_len_seq (by rfl) T.b_len PySem.boot_len (pa_cons (pv 0) pa_nil)) pe_int (nomark _))))) (pss_one (ps_ret pe_bl)) pss_nil)
      (pss_cons (ps_asg (pv 0) (pg_tup (n := 2) (by rfl) (pgs_cons (pg_name (i := 2) sc_is_pair.nd rfl (Or.inl rfl)) (pgs_cons (pg_name (i := 3) sc_is_pair.nd rfl (Or.inl rfl)) pgs_nil))))
      (pss_one (ps_ret (pe_and (pe_call G_is_number (hr.mono (by decide)) rfl D_is_number.g D_is_number.F.kp D_is_number.b .nil pass0 (pa_cons (pv 2) pa_nil)) (pe_one (pe_call G_is_below (hr.mono (by decide)) rfl D_is_below.g D_is_below.F.kp D_is_below.b .nil pass0 (pa_cons (pv 3) (pa_cons (pv 1) pa_nil))))))))), ?_⟩
    try simp only [tSeq, tIfS, tTest, tOp, tUn, tCB, tCons, tNil, tVar, tC, rI0, rI, rU, rEq, rNe, tRet, tRetN, tAsg, gName, gSub, tBM, tBM0, tNext, tB, tNot, tAnd, tOr, tIf, tCall, tDrop, tBreak, tCont, L2.start, tDGet, sDPut, tTup, tLst, tDNewK, tRevL, rCat, rAppend, rPop, rSetL, tAndV, tOrV, tNotV, tSl, tPart, tNoPart, tM1, gTup, gCons, gNil, cxK, cxnK, List.map_cons, List.map_nil, List.length_cons, List.length_nil, List.replicate, List.cons_append, List.nil_append, List.append_nil, List.set_cons_zero, List.set_cons_succ, List.getElem?_cons_zero, List.getElem?_cons_succ, Option.some.injEq, V.ref.injEq, V.int.injEq, V.str.injEq, V.bl.injEq, V.ty.injEq, exists_eq_left', exists_eq_left, exists_and_left, List.cons.injEq, and_true, true_and, sc_ii, sc_ss, sc_bb, sc_ni, sc_in, sc_is, sc_si, sc_nn, decide_true, decide_false, reduceCtorEq, Bool.false_eq_true, if_true, if_false, ite_true, ite_false, exists_const, eq_self, false_and, and_false, or_false, false_or, exists_false, Evl.rLenS, rSum, wipe, tYes, exists_eq, exists_eq', rIxL, rIxT, rIxS, exists_and_right, gt_iff_lt, not_true_eq_false, not_false_eq_true, Bool.not_true, Bool.not_false, decide_eq_true_eq, Nat.reduceSub, Nat.reduceAdd, List.append_assoc, tChain, tDIn, tDNotIn, sDDel, tAug, ipI]
    refine isi_Dtup hd ?_
    cases hd with
    | @tup a xs ds e ha =>
      try simp only [tSeq, tIfS, tTest, tOp, tUn, tCB, tCons, tNil, tVar, tC, rI0, rI, rU, rEq, rNe, tRet, tRetN, tAsg, gName, gSub, tBM, tBM0, tNext, tB, tNot, tAnd, tOr, tIf, tCall, tDrop, tBreak, tCont, L2.start, tDGet, sDPut, tTup, tLst, tDNewK, tRevL, rCat, rAppend, rPop, rSetL, tAndV, tOrV, tNotV, tSl, tPart, tNoPart, tM1, gTup, gCons, gNil, cxK, cxnK, List.map_cons, List.map_nil, List.length_cons, List.length_nil, List.replicate, List.cons_append, List.nil_append, List.append_nil, List.set_cons_zero, List.set_cons_succ, List.getElem?_cons_zero, List.getElem?_cons_succ, Option.some.injEq, V.ref.injEq, V.int.injEq, V.str.injEq, V.bl.injEq, V.ty.injEq, exists_eq_left', exists_eq_left, exists_and_left, List.cons.injEq, and_true, true_and, sc_ii, sc_ss, sc_bb, sc_ni, sc_in, sc_is, sc_si, sc_nn, decide_true, decide_false, reduceCtorEq, Bool.false_eq_true, if_true, if_false, ite_true, ite_false, exists_const, eq_self, false_and, and_false, or_false, false_or, exists_false, Evl.rLenS, rSum, wipe, tYes, exists_eq, exists_eq', rIxL, rIxT, rIxS, exists_and_right, gt_iff_lt, not_true_eq_false, not_false_eq_true, Bool.not_true, Bool.not_false, decide_eq_true_eq, Nat.reduceSub, Nat.reduceAdd, List.append_assoc, tChain, tDIn, tDNotIn, sDDel, tAug, ipI, isTupD]
      have hl := ha.len
      refine ⟨xs, .inr (sq_t e), ?_⟩
      rw [hl]
      by_cases h2 : ds.length = 2
      · obtain ⟨da, db, rfl⟩ : ∃ a b, ds = [a, b] := by
          match ds, h2 with
          | [a, b], _ => exact ⟨a, b, rfl⟩
        cases ha with
        | cons h1 ht =>
        cases ht with
        | cons h3 ht =>
        cases ht
        have q' : ∀ H', Kp [] H H' → Q (.bl (belowD 10 da && belowD m db)) H' := q
        have e2 : (((2 : Nat) : Int) = 2) = True := eq_true rfl
        try simp only [tSeq, tIfS, tTest, tOp, tUn, tCB, tCons, tNil, tVar, tC, rI0, rI, rU, rEq, rNe, tRet, tRetN, tAsg, gName, gSub, tBM, tBM0, tNext, tB, tNot, tAnd, tOr, tIf, tCall, tDrop, tBreak, tCont, L2.start, tDGet, sDPut, tTup, tLst, tDNewK, tRevL, rCat, rAppend, rPop, rSetL, tAndV, tOrV, tNotV, tSl, tPart, tNoPart, tM1, gTup, gCons, gNil, cxK, cxnK, List.map_cons, List.map_nil, List.length_cons, List.length_nil, List.replicate, List.cons_append, List.nil_append, List.append_nil, List.set_cons_zero, List.set_cons_succ, List.getElem?_cons_zero, List.getElem?_cons_succ, Option.some.injEq, V.ref.injEq, V.int.injEq, V.str.injEq, V.bl.injEq, V.ty.injEq, exists_eq_left', exists_eq_left, exists_and_left, List.cons.injEq, and_true, true_and, sc_ii, sc_ss, sc_bb, sc_ni, sc_in, sc_is, sc_si, sc_nn, decide_true, decide_false, reduceCtorEq, Bool.false_eq_true, if_true, if_false, ite_true, ite_false, exists_const, eq_self, false_and, and_false, or_false, false_or, exists_false, Evl.rLenS, rSum, wipe, tYes, exists_eq, exists_eq', rIxL, rIxT, rIxS, exists_and_right, gt_iff_lt, not_true_eq_false, not_false_eq_true, Bool.not_true, Bool.not_false, decide_eq_true_eq, Nat.reduceSub, Nat.reduceAdd, List.append_assoc, tChain, tDIn, tDNotIn, sDDel, tAug, ipI, e2]
        refine ⟨_, sq_t e, rfl, _, _, rfl, _, _, rfl, rfl, ?_⟩
        refine ⟨_, da, rfl, h1, szAll_mem sz da (by simp), True.intro, fun H1 k1 => ?_⟩
        cases hn : belowD 10 da with
        | false =>
          rw [hn] at q'
          try simp only [tSeq, tIfS, tTest, tOp, tUn, tCB, tCons, tNil, tVar, tC, rI0, rI, rU, rEq, rNe, tRet, tRetN, tAsg, gName, gSub, tBM, tBM0, tNext, tB, tNot, tAnd, tOr, tIf, tCall, tDrop, tBreak, tCont, L2.start, tDGet, sDPut, tTup, tLst, tDNewK, tRevL, rCat, rAppend, rPop, rSetL, tAndV, tOrV, tNotV, tSl, tPart, tNoPart, tM1, gTup, gCons, gNil, cxK, cxnK, List.map_cons, List.map_nil, List.length_cons, List.length_nil, List.replicate, List.cons_append, List.nil_append, List.append_nil, List.set_cons_zero, List.set_cons_succ, List.getElem?_cons_zero, List.getElem?_cons_succ, Option.some.injEq, V.ref.injEq, V.int.injEq, V.str.injEq, V.bl.injEq, V.ty.injEq, exists_eq_left', exists_eq_left, exists_and_left, List.cons.injEq, and_true, true_and, sc_ii, sc_ss, sc_bb, sc_ni, sc_in, sc_is, sc_si, sc_nn, decide_true, decide_false, reduceCtorEq, Bool.false_eq_true, if_true, if_false, ite_true, ite_false, exists_const, eq_self, false_and, and_false, or_false, false_or, exists_false, Evl.rLenS, rSum, wipe, tYes, exists_eq, exists_eq', rIxL, rIxT, rIxS, exists_and_right, gt_iff_lt, not_true_eq_false, not_false_eq_true, Bool.not_true, Bool.not_false, decide_eq_true_eq, Nat.reduceSub, Nat.reduceAdd, List.append_assoc, tChain, tDIn, tDNotIn, sDDel, tAug, ipI]
          exact q' _ k1
        | true =>
          rw [hn] at q'
          try simp only [tSeq, tIfS, tTest, tOp, tUn, tCB, tCons, tNil, tVar, tC, rI0, rI, rU, rEq, rNe, tRet, tRetN, tAsg, gName, gSub, tBM, tBM0, tNext, tB, tNot, tAnd, tOr, tIf, tCall, tDrop, tBreak, tCont, L2.start, tDGet, sDPut, tTup, tLst, tDNewK, tRevL, rCat, rAppend, rPop, rSetL, tAndV, tOrV, tNotV, tSl, tPart, tNoPart, tM1, gTup, gCons, gNil, cxK, cxnK, List.map_cons, List.map_nil, List.length_cons, List.length_nil, List.replicate, List.cons_append, List.nil_append, List.append_nil, List.set_cons_zero, List.set_cons_succ, List.getElem?_cons_zero, List.getElem?_cons_succ, Option.some.injEq, V.ref.injEq, V.int.injEq, V.str.injEq, V.bl.injEq, V.ty.injEq, exists_eq_left', exists_eq_left, exists_and_left, List.cons.injEq, and_true, true_and, sc_ii, sc_ss, sc_bb, sc_ni, sc_in, sc_is, sc_si, sc_nn, decide_true, decide_false, reduceCtorEq, Bool.false_eq_true, if_true, if_false, ite_true, ite_false, exists_const, eq_self, false_and, and_false, or_false, false_or, exists_false, Evl.rLenS, rSum, wipe, tYes, exists_eq, exists_eq', rIxL, rIxT, rIxS, exists_and_right, gt_iff_lt, not_true_eq_false, not_false_eq_true, Bool.not_true, Bool.not_false, decide_eq_true_eq, Nat.reduceSub, Nat.reduceAdd, List.append_assoc, tChain, tDIn, tDNotIn, sDDel, tAug, ipI]
          exact ⟨_, db, m, rfl, h3.kp k1, q' _ k1⟩
      · have e2 : ((ds.length : Nat) : Int) ≠ 2 := by omega
        have qf : pairD m (.tuple ds) = false := by
          match ds, h2 with
          | [], _ => rfl
          | [_], _ => rfl
          | _ :: _ :: _ :: _, _ => rfl
        rw [qf] at q
        try simp only [tSeq, tIfS, tTest, tOp, tUn, tCB, tCons, tNil, tVar, tC, rI0, rI, rU, rEq, rNe, tRet, tRetN, tAsg, gName, gSub, tBM, tBM0, tNext, tB, tNot, tAnd, tOr, tIf, tCall, tDrop, tBreak, tCont, L2.start, tDGet, sDPut, tTup, tLst, tDNewK, tRevL, rCat, rAppend, rPop, rSetL, tAndV, tOrV, tNotV, tSl, tPart, tNoPart, tM1, gTup, gCons, gNil, cxK, cxnK, List.map_cons, List.map_nil, List.length_cons, List.length_nil, List.replicate, List.cons_append, List.nil_append, List.append_nil, List.set_cons_zero, List.set_cons_succ, List.getElem?_cons_zero, List.getElem?_cons_succ, Option.some.injEq, V.ref.injEq, V.int.injEq, V.str.injEq, V.bl.injEq, V.ty.injEq, exists_eq_left', exists_eq_left, exists_and_left, List.cons.injEq, and_true, true_and, sc_ii, sc_ss, sc_bb, sc_ni, sc_in, sc_is, sc_si, sc_nn, decide_true, decide_false, reduceCtorEq, Bool.false_eq_true, if_true, if_false, ite_true, ite_false, exists_const, eq_self, false_and, and_false, or_false, false_or, exists_false, Evl.rLenS, rSum, wipe, tYes, exists_eq, exists_eq', rIxL, rIxT, rIxS, exists_and_right, gt_iff_lt, not_true_eq_false, not_false_eq_true, Bool.not_true, Bool.not_false, decide_eq_true_eq, Nat.reduceSub, Nat.reduceAdd, List.append_assoc, tChain, tDIn, tDNotIn, sDDel, tAug, ipI, e2]
        exact q _ (Kp.refl _ _)
    | _ =>
      try simp only [tSeq, tIfS, tTest, tOp, tUn, tCB, tCons, tNil, tVar, tC, rI0, rI, rU, rEq, rNe, tRet, tRetN, tAsg, gName, gSub, tBM, tBM0, tNext, tB, tNot, tAnd, tOr, tIf, tCall, tDrop, tBreak, tCont, L2.start, tDGet, sDPut, tTup, tLst, tDNewK, tRevL, rCat, rAppend, rPop, rSetL, tAndV, tOrV, tNotV, tSl, tPart, tNoPart, tM1, gTup, gCons, gNil, cxK, cxnK, List.map_cons, List.map_nil, List.length_cons, List.length_nil, List.replicate, List.cons_append, List.nil_append, List.append_nil, List.set_cons_zero, List.set_cons_succ, List.getElem?_cons_zero, List.getElem?_cons_succ, Option.some.injEq, V.ref.injEq, V.int.injEq, V.str.injEq, V.bl.injEq, V.ty.injEq, exists_eq_left', exists_eq_left, exists_and_left, List.cons.injEq, and_true, true_and, sc_ii, sc_ss, sc_bb, sc_ni, sc_in, sc_is, sc_si, sc_nn, decide_true, decide_false, reduceCtorEq, Bool.false_eq_true, if_true, if_false, ite_true, ite_false, exists_const, eq_self, false_and, and_false, or_false, false_or, exists_false, Evl.rLenS, rSum, wipe, tYes, exists_eq, exists_eq', rIxL, rIxT, rIxS, exists_and_right, gt_iff_lt, not_true_eq_false, not_false_eq_true, Bool.not_true, Bool.not_false, decide_eq_true_eq, Nat.reduceSub, Nat.reduceAdd, List.append_assoc, tChain, tDIn, tDNotIn, sDDel, tAug, ipI, isTupD]
      exact q _ (Kp.refl _ _)
theorem ok_is_row {f : Addr} {fd : FuncData} (D : Df K mg "is_row" s_is_row ["row"] f fd) (T : Bt mg tL t1 t2) {fb : Addr} {fdb : FuncData} (D_is_pair : Df K mg "is_pair" s_is_pair ["pair", "size"] fb fdb) (G_is_pair : FnOk P w K mg base CX0 3 fb fdb ["pair", "size"] spPairD) : FnOk P w K mg base CX0 4 f fd ["row"] (spD (fun d => ∀ ds, d = .list ds → ds.length ≤ 1000) rowD) := by
  refine D.F.ok sc_is_row (fun vs H Q E h => ?_) (fun cdv A outer s H vs Q E hr h => ?_)
  · obtain ⟨v, d, rfl, _⟩ := h
    rfl
  · obtain ⟨v, d, rfl, hd, sz, pre, q⟩ := h
    refine ⟨_, (pss_cons (ps_if (PW.pt (pw_or (pt_not (pt_val (pe_callB (id := "isinstance") (r := rIsi K) call_isi (by rfl) T.b_isinstance (by decide +kernel) (pa_cons (pv 0) (pa_cons (pe_bltn (v := .ty "list") (by rfl) T.b_list (by decide +kernel) rfl) pa_nil))))) (pw_or1 (pt_not (pt_chain op_le op_le pe_int (pe_callB (id := "len") (r := Evl.rLenS K) call_len_seq (by rfl) T.b_len PySem.boot_len (pa_cons (pv 0) pa_nil)) (pe_glob (v := .int 100) rfl T.c_MOST_STATES ⟨_, rfl⟩)))))) (pss_one (ps_ret pe_bl)) pss_nil)
      (pss_one (ps_ret (pe_callB (id := "all") (r := rAll K) (cr_all rfl) (by rfl) T.b_all (by decide +kernel) (pa_cons (pe_lc (own := [("pair", 1)]) (g := (gName 1)) (tt := tYes) rfl sc_is_row.nd (pi_list (pv 0)) (blkOk_by (N := ["row", "pair"]) (sc := defScope s_is_row) (by decide +kernel)) (fun _ _ _ _ _ => (pg_name (i := 1) sc_is_row.nd rfl (Or.inl rfl))) (fun _ _ _ _ _ => pts_nil) (fun _ _ _ _ _ => (pe_call G_is_pair (hr.mono (by decide)) rfl D_is_pair.g D_is_pair.F.kp D_is_pair.b .nil pass0 (pa_cons (pv 1) (pa_cons (pe_callB (id := "len") (r := Evl.rLenS K) call_len_seq (by rfl) T.b_len PySem.boot_len (pa_cons (pv 0) pa_nil)) pa_nil))))) pa_nil))))), ?_⟩
    try simp only [tSeq, tIfS, tTest, tOp, tUn, tCB, tCons, tNil, tVar, tC, rI0, rI, rU, rEq, rNe, tRet, tRetN, tAsg, gName, gSub, tBM, tBM0, tNext, tB, tNot, tAnd, tOr, tIf, tCall, tDrop, tBreak, tCont, L2.start, tDGet, sDPut, tTup, tLst, tDNewK, tRevL, rCat, rAppend, rPop, rSetL, tAndV, tOrV, tNotV, tSl, tPart, tNoPart, tM1, gTup, gCons, gNil, cxK, cxnK, List.map_cons, List.map_nil, List.length_cons, List.length_nil, List.replicate, List.cons_append, List.nil_append, List.append_nil, List.set_cons_zero, List.set_cons_succ, List.getElem?_cons_zero, List.getElem?_cons_succ, Option.some.injEq, V.ref.injEq, V.int.injEq, V.str.injEq, V.bl.injEq, V.ty.injEq, exists_eq_left', exists_eq_left, exists_and_left, List.cons.injEq, and_true, true_and, sc_ii, sc_ss, sc_bb, sc_ni, sc_in, sc_is, sc_si, sc_nn, decide_true, decide_false, reduceCtorEq, Bool.false_eq_true, if_true, if_false, ite_true, ite_false, exists_const, eq_self, false_and, and_false, or_false, false_or, exists_false, Evl.rLenS, rSum, wipe, tYes, exists_eq, exists_eq', rIxL, rIxT, rIxS, exists_and_right, gt_iff_lt, not_true_eq_false, not_false_eq_true, Bool.not_true, Bool.not_false, decide_eq_true_eq, Nat.reduceSub, Nat.reduceAdd, List.append_assoc, tChain, tDIn, tDNotIn, sDDel, tAug, ipI]
    refine isi_Dlst hd ?_
    cases hd with
    | @lst a xs ds e ha =>
      try simp only [tSeq, tIfS, tTest, tOp, tUn, tCB, tCons, tNil, tVar, tC, rI0, rI, rU, rEq, rNe, tRet, tRetN, tAsg, gName, gSub, tBM, tBM0, tNext, tB, tNot, tAnd, tOr, tIf, tCall, tDrop, tBreak, tCont, L2.start, tDGet, sDPut, tTup, tLst, tDNewK, tRevL, rCat, rAppend, rPop, rSetL, tAndV, tOrV, tNotV, tSl, tPart, tNoPart, tM1, gTup, gCons, gNil, cxK, cxnK, List.map_cons, List.map_nil, List.length_cons, List.length_nil, List.replicate, List.cons_append, List.nil_append, List.append_nil, List.set_cons_zero, List.set_cons_succ, List.getElem?_cons_zero, List.getElem?_cons_succ, Option.some.injEq, V.ref.injEq, V.int.injEq, V.str.injEq, V.bl.injEq, V.ty.injEq, exists_eq_left', exists_eq_left, exists_and_left, List.cons.injEq, and_true, true_and, sc_ii, sc_ss, sc_bb, sc_ni, sc_in, sc_is, sc_si, sc_nn, decide_true, decide_false, reduceCtorEq, Bool.false_eq_true, if_true, if_false, ite_true, ite_false, exists_const, eq_self, false_and, and_false, or_false, false_or, exists_false, Evl.rLenS, rSum, wipe, tYes, exists_eq, exists_eq', rIxL, rIxT, rIxS, exists_and_right, gt_iff_lt, not_true_eq_false, not_false_eq_true, Bool.not_true, Bool.not_false, decide_eq_true_eq, Nat.reduceSub, Nat.reduceAdd, List.append_assoc, tChain, tDIn, tDNotIn, sDDel, tAug, ipI, isLstD]
      have hl := ha.len
      have hb := pre ds rfl
      refine ⟨xs, .inl (sq_l e), ?_⟩
      rw [hl]
      have q' : ∀ H', Kp [] H H' → Q (.bl (decide (1 ≤ ds.length) && (decide (ds.length ≤ 100) && ds.all (pairD ds.length)))) H' := q
      by_cases h1 : 1 ≤ ds.length
      · by_cases h3 : ds.length ≤ 100
        · have e1 : (1 : Int) ≤ (ds.length : Nat) := by omega
          have e3 : ((ds.length : Nat) : Int) ≤ 100 := by omega
          rw [decide_eq_true h1, decide_eq_true h3] at q'
          try simp only [tSeq, tIfS, tTest, tOp, tUn, tCB, tCons, tNil, tVar, tC, rI0, rI, rU, rEq, rNe, tRet, tRetN, tAsg, gName, gSub, tBM, tBM0, tNext, tB, tNot, tAnd, tOr, tIf, tCall, tDrop, tBreak, tCont, L2.start, tDGet, sDPut, tTup, tLst, tDNewK, tRevL, rCat, rAppend, rPop, rSetL, tAndV, tOrV, tNotV, tSl, tPart, tNoPart, tM1, gTup, gCons, gNil, cxK, cxnK, List.map_cons, List.map_nil, List.length_cons, List.length_nil, List.replicate, List.cons_append, List.nil_append, List.append_nil, List.set_cons_zero, List.set_cons_succ, List.getElem?_cons_zero, List.getElem?_cons_succ, Option.some.injEq, V.ref.injEq, V.int.injEq, V.str.injEq, V.bl.injEq, V.ty.injEq, exists_eq_left', exists_eq_left, exists_and_left, List.cons.injEq, and_true, true_and, sc_ii, sc_ss, sc_bb, sc_ni, sc_in, sc_is, sc_si, sc_nn, decide_true, decide_false, reduceCtorEq, Bool.false_eq_true, if_true, if_false, ite_true, ite_false, exists_const, eq_self, false_and, and_false, or_false, false_or, exists_false, Evl.rLenS, rSum, wipe, tYes, exists_eq, exists_eq', rIxL, rIxT, rIxS, exists_and_right, gt_iff_lt, not_true_eq_false, not_false_eq_true, Bool.not_true, Bool.not_false, decide_eq_true_eq, Nat.reduceSub, Nat.reduceAdd, List.append_assoc, tChain, tDIn, tDNotIn, sDDel, tAug, ipI, e1, e3]
          refine ⟨.ref a, rfl, a, rfl, ⟨_, sq_l e⟩, fun o no => lc_list (xs := xs) (AllIn (pairD ds.length) ds o H) ⟨upd_same, Kp.new no⟩ (fun i H1 _ h => h.2.ls not0 (sq_l e)) ?_ ?_⟩
          · rintro i x H1 hx h
            obtain ⟨d, ed, hdx⟩ := ha.get hx
            try simp only [tSeq, tIfS, tTest, tOp, tUn, tCB, tCons, tNil, tVar, tC, rI0, rI, rU, rEq, rNe, tRet, tRetN, tAsg, gName, gSub, tBM, tBM0, tNext, tB, tNot, tAnd, tOr, tIf, tCall, tDrop, tBreak, tCont, L2.start, tDGet, sDPut, tTup, tLst, tDNewK, tRevL, rCat, rAppend, rPop, rSetL, tAndV, tOrV, tNotV, tSl, tPart, tNoPart, tM1, gTup, gCons, gNil, cxK, cxnK, List.map_cons, List.map_nil, List.length_cons, List.length_nil, List.replicate, List.cons_append, List.nil_append, List.append_nil, List.set_cons_zero, List.set_cons_succ, List.getElem?_cons_zero, List.getElem?_cons_succ, Option.some.injEq, V.ref.injEq, V.int.injEq, V.str.injEq, V.bl.injEq, V.ty.injEq, exists_eq_left', exists_eq_left, exists_and_left, List.cons.injEq, and_true, true_and, sc_ii, sc_ss, sc_bb, sc_ni, sc_in, sc_is, sc_si, sc_nn, decide_true, decide_false, reduceCtorEq, Bool.false_eq_true, if_true, if_false, ite_true, ite_false, exists_const, eq_self, false_and, and_false, or_false, false_or, exists_false, Evl.rLenS, rSum, wipe, tYes, exists_eq, exists_eq', rIxL, rIxT, rIxS, exists_and_right, gt_iff_lt, not_true_eq_false, not_false_eq_true, Bool.not_true, Bool.not_false, decide_eq_true_eq, Nat.reduceSub, Nat.reduceAdd, List.append_assoc, tChain, tDIn, tDNotIn, sDDel, tAug, ipI]
            refine ⟨xs, .inl (h.2.ls not0 (sq_l e)), x, d, ds.length, by rw [hl], hdx.kp h.2, szAll_mem sz d (List.mem_of_getElem? ed), fun H2 k2 => allIn_step no h k2 ed (by omega)⟩
          · intro H1 h
            rw [hl] at h
            exact allIn_end h (q' _ h.2)
        · have e1 : (1 : Int) ≤ (ds.length : Nat) := by omega
          have e3 : ¬ ((ds.length : Nat) : Int) ≤ 100 := by omega
          rw [decide_eq_true h1, decide_eq_false h3] at q'
          try simp only [tSeq, tIfS, tTest, tOp, tUn, tCB, tCons, tNil, tVar, tC, rI0, rI, rU, rEq, rNe, tRet, tRetN, tAsg, gName, gSub, tBM, tBM0, tNext, tB, tNot, tAnd, tOr, tIf, tCall, tDrop, tBreak, tCont, L2.start, tDGet, sDPut, tTup, tLst, tDNewK, tRevL, rCat, rAppend, rPop, rSetL, tAndV, tOrV, tNotV, tSl, tPart, tNoPart, tM1, gTup, gCons, gNil, cxK, cxnK, List.map_cons, List.map_nil, List.length_cons, List.length_nil, List.replicate, List.cons_append, List.nil_append, List.append_nil, List.set_cons_zero, List.set_cons_succ, List.getElem?_cons_zero, List.getElem?_cons_succ, Option.some.injEq, V.ref.injEq, V.int.injEq, V.str.injEq, V.bl.injEq, V.ty.injEq, exists_eq_left', exists_eq_left, exists_and_left, List.cons.injEq, and_true, true_and, sc_ii, sc_ss, sc_bb, sc_ni, sc_in, sc_is, sc_si, sc_nn, decide_true, decide_false, reduceCtorEq, Bool.false_eq_true, if_true, if_false, ite_true, ite_false, exists_const, eq_self, false_and, and_false, or_false, false_or, exists_false, Evl.rLenS, rSum, wipe, tYes, exists_eq, exists_eq', rIxL, rIxT, rIxS, exists_and_right, gt_iff_lt, not_true_eq_false, not_false_eq_true, Bool.not_true, Bool.not_false, decide_eq_true_eq, Nat.reduceSub, Nat.reduceAdd, List.append_assoc, tChain, tDIn, tDNotIn, sDDel, tAug, ipI, e1, e3]
          exact q' _ (Kp.refl _ _)
      · have e1 : ¬ (1 : Int) ≤ (ds.length : Nat) := by omega
        rw [decide_eq_false h1] at q'
        try simp only [tSeq, tIfS, tTest, tOp, tUn, tCB, tCons, tNil, tVar, tC, rI0, rI, rU, rEq, rNe, tRet, tRetN, tAsg, gName, gSub, tBM, tBM0, tNext, tB, tNot, tAnd, tOr, tIf, tCall, tDrop, tBreak, tCont, L2.start, tDGet, sDPut, tTup, tLst, tDNewK, tRevL, rCat, rAppend, rPop, rSetL, tAndV, tOrV, tNotV, tSl, tPart, tNoPart, tM1, gTup, gCons, gNil, cxK, cxnK, List.map_cons, List.map_nil, List.length_cons, List.length_nil, List.replicate, List.cons_append, List.nil_append, List.append_nil, List.set_cons_zero, List.set_cons_succ, List.getElem?_cons_zero, List.getElem?_cons_succ, Option.some.injEq, V.ref.injEq, V.int.injEq, V.str.injEq, V.bl.injEq, V.ty.injEq, exists_eq_left', exists_eq_left, exists_and_left, List.cons.injEq, and_true, true_and, sc_ii, sc_ss, sc_bb, sc_ni, sc_in, sc_is, sc_si, sc_nn, decide_true, decide_false, reduceCtorEq, Bool.false_eq_true, if_true, if_false, ite_true, ite_false, exists_const, eq_self, false_and, and_false, or_false, false_or, exists_false, Evl.rLenS, rSum, wipe, tYes, exists_eq, exists_eq', rIxL, rIxT, rIxS, exists_and_right, gt_iff_lt, not_true_eq_false, not_false_eq_true, Bool.not_true, Bool.not_false, decide_eq_true_eq, Nat.reduceSub, Nat.reduceAdd, List.append_assoc, tChain, tDIn, tDNotIn, sDDel, tAug, ipI, e1]
        exact q' _ (Kp.refl _ _)
    | _ =>
      try simp only [tSeq, tIfS, tTest, tOp, tUn, tCB, tCons, tNil, tVar, tC, rI0, rI, rU, rEq, rNe, tRet, tRetN, tAsg, gName, gSub, tBM, tBM0, tNext, tB, tNot, tAnd, tOr, tIf, tCall, tDrop, tBreak, tCont, L2.start, tDGet, sDPut, tTup, tLst, tDNewK, tRevL, rCat, rAppend, rPop, rSetL, tAndV, tOrV, tNotV, tSl, tPart, tNoPart, tM1, gTup, gCons, gNil, cxK, cxnK, List.map_cons, List.map_nil, List.length_cons, List.length_nil, List.replicate, List.cons_append, List.nil_append, List.append_nil, List.set_cons_zero, List.set_cons_succ, List.getElem?_cons_zero, List.getElem?_cons_succ, Option.some.injEq, V.ref.injEq, V.int.injEq, V.str.injEq, V.bl.injEq, V.ty.injEq, exists_eq_left', exists_eq_left, exists_and_left, List.cons.injEq, and_true, true_and, sc_ii, sc_ss, sc_bb, sc_ni, sc_in, sc_is, sc_si, sc_nn, decide_true, decide_false, reduceCtorEq, Bool.false_eq_true, if_true, if_false, ite_true, ite_false, exists_const, eq_self, false_and, and_false, or_false, false_or, exists_false, Evl.rLenS, rSum, wipe, tYes, exists_eq, exists_eq', rIxL, rIxT, rIxS, exists_and_right, gt_iff_lt, not_true_eq_false, not_false_eq_true, Bool.not_true, Bool.not_false, decide_eq_true_eq, Nat.reduceSub, Nat.reduceAdd, List.append_assoc, tChain, tDIn, tDNotIn, sDDel, tAug, ipI, isLstD]
      exact q _ (Kp.refl _ _)
end
end My

set_option Elab.async false
set_option linter.all false
set_option maxRecDepth 100000
set_option maxHeartbeats 4000000
namespace My
open PySem L2 NdefX
def mtop (i j : Nat) : Stmt := match top i with
  | .ClassDef _ _ _ b _ _ _ _ _ _ _ => b.getD j (.Pass ⟨0, 0, 0, 0⟩)
  | _ => .Pass ⟨0, 0, 0, 0⟩
abbrev s_BadTable_init : Stmt := mtop 4 0
theorem sc_BadTable_init : NScope ["self", "name", "__class__"] ["self", "name"] ["__class__"] (defScope s_BadTable_init) := nscope_by (by decide +kernel)
/-- what stands of an own error with one field, and its __init__ -/
structure Er1 (P : Program) (w : World) (K : PySem.W.Frag) (mg : Str → Option Value) (base : Heap) (nm fld : Str) (C f : Addr) (fd : FuncData) (ps : List Str) (Pf : V → Prop) : Prop where
  k : mg nm = some (.ref C)
  ox : OexC K C
  ic : PySem.W.findIn K (.ref C) "__init__" = some (some (.ref f))
  ti : PySem.W.typeIn K (.ref f) = some (.type "function")
  b : Binds K fd ps []
  G : FnOk P w K mg base (L2.CX P w) 1 f fd ps (spErr1 C fld Pf)
section
variable {P : Program} {w : World} {K : PySem.W.Frag} {mg : Str → Option Value} {base : Heap} {CX : CXT} {tL t1 t2 : Tok}
theorem ok_BadTable_init {f cc cda C : Addr} {fd : FuncData} (F : FunX K "__init__" "BadTable.__init__" s_BadTable_init f fd cc cda C) (T : ErrC K C) (G : CodeF K P cda) (hsup : mg "super" = none) (n1 : PySem.W.findIn K (.ref C) "name" = some none) {Pf : V → Prop} :
    FnOk P w K mg base CX 1 f fd ["self", "name"] (spErr1 C "name" Pf) := by
  have F0 := F
  obtain ⟨oc, od, kV, doc, pm, an, ct, osl, hfd, lk, hcd⟩ := F0.ex
  obtain ⟨cl, cld, csl, hcc⟩ := F0.cell
  refine F.ok sc_BadTable_init (fun vs H Q E h => ?_) (fun A outer s H vs Q E hr h => ?_)
  · obtain ⟨a, v, rfl, _⟩ := h
    rfl
  · obtain ⟨a, v, rfl, hp, ha, q⟩ := h
    refine ⟨_, psat_cons (psat_sup T G lk (by rw [hfd]; rfl) hcc hsup rfl rfl rfl rfl rfl rfl rfl (pa_cons pe_str pa_nil) rfl rfl rfl rfl rfl) (pss_one (ps_ost (pv 0) (pv 1))), ?_⟩
    try simp only [tSeq, tIfS, tTest, tOp, tUn, tCB, tCons, tNil, tVar, tC, rI0, rI, rU, rEq, rNe, tRet, tRetN, tAsg, gName, gSub, tBM, tBM0, tNext, tB, tNot, tAnd, tOr, tIf, tCall, tDrop, tBreak, tCont, L2.start, tDGet, sDPut, tTup, tLst, tDNewK, tRevL, rCat, rAppend, rPop, rSetL, tAndV, tOrV, tNotV, tSl, tPart, tNoPart, tM1, gTup, gCons, gNil, cxK, cxnK, List.map_cons, List.map_nil, List.length_cons, List.length_nil, List.replicate, List.cons_append, List.nil_append, List.append_nil, List.set_cons_zero, List.set_cons_succ, List.getElem?_cons_zero, List.getElem?_cons_succ, Option.some.injEq, V.ref.injEq, V.int.injEq, V.str.injEq, V.bl.injEq, V.ty.injEq, exists_eq_left', exists_eq_left, exists_and_left, List.cons.injEq, and_true, true_and, sc_ii, sc_ss, sc_bb, sc_ni, sc_in, sc_is, sc_si, sc_nn, decide_true, decide_false, reduceCtorEq, Bool.false_eq_true, if_true, if_false, ite_true, ite_false, exists_const, eq_self, false_and, and_false, or_false, false_or, exists_false, Evl.rLenS, rSum, wipe, tYes, exists_eq, exists_eq', rIxL, rIxT, rIxS, exists_and_right, gt_iff_lt, not_true_eq_false, not_false_eq_true, Bool.not_true, Bool.not_false, decide_eq_true_eq, Nat.reduceSub, Nat.reduceAdd, List.append_assoc, tChain, tDIn, tDNotIn, sDDel, tAug, ipI, startF, tSupI, tOst]
    exact ⟨ha, by decide, ha, C, T.ox, n1, .inl ⟨ha, q⟩⟩
def RowsD (H : Hp) (kvs : List (Key × V)) (rs : List (Str × PyData)) : Prop := kvs.length = rs.length ∧ ∀ (i : Nat) (k : Key) (v : V), kvs[i]? = some (k, v) → ∃ n d, k = Sum.inr n ∧ rs[i]? = some (n, d) ∧ Dq H v d ∧ szD d = true ∧ (∀ ds, d = .list ds → ds.length ≤ 1000) ∧ n.length ≤ 1000
def lenD : PyData → Nat
  | .list ds => ds.length
  | _ => 0
def goodR (m : Nat) (p : Str × PyData) : Bool := nameS p.1 && (rowD p.2 && lenD p.2 == m)
def rowsBad (rs : List (Str × PyData)) : Option Str :=
  match rs with
  | [] => some ""
  | p :: r => if 7 ≤ (p :: r).length then some "" else ((p :: r).find? fun q => !goodR (lenD p.2) q).map (·.1)
mutual
theorem Dq.kpN {H H' : Hp} {S : List Addr} (k : Kp S H H') (hS : ∀ a ∈ S, ∀ xs, H a ≠ some (.tup xs) ∧ H a ≠ some (.lst xs)) : ∀ {d : PyData} {v : V}, Dq H v d → Dq H' v d
  | _, _, .non => .non
  | _, _, .bl b => .bl b
  | _, _, .int i => .int i
  | _, _, .str x => .str x
  | _, _, .lst e h => .lst (k _ _ (fun m => (hS _ m _).2 e) e) (DqAll.kpN k hS h)
  | _, _, .tup e h => .tup (k _ _ (fun m => (hS _ m _).1 e) e) (DqAll.kpN k hS h)
theorem DqAll.kpN {H H' : Hp} {S : List Addr} (k : Kp S H H') (hS : ∀ a ∈ S, ∀ xs, H a ≠ some (.tup xs) ∧ H a ≠ some (.lst xs)) : ∀ {ds : List PyData} {vs : List V}, DqAll H vs ds → DqAll H' vs ds
  | _, _, .nil => .nil
  | _, _, .cons h t => .cons (Dq.kpN k hS h) (DqAll.kpN k hS t)
end
theorem unl {H2 H' : Hp} {d : Addr} {u : HO} (k : Kp [d] H2 H') (e : H2 d = some u) : Kp [] H2 (upd H' d u) := fun b o _ eb => by
  by_cases z : b = d
  · rw [z, upd_same, ← e, ← z, eb]
  · rw [upd_ne z]; exact k b o (not1 z) eb
theorem find_first {α : Type} {f : α → Bool} {l : List α} {i : Nat} {x : α} (e : l[i]? = some x) (hx : f x = true) (h : ∀ j y, j < i → l[j]? = some y → f y = false) : l.find? f = some x := by
  induction l generalizing i with
  | nil => cases e
  | cons a r ih =>
    cases i with
    | zero => cases e; rw [List.find?_cons, hx]
    | succ i =>
      rw [List.find?_cons, h 0 a (by omega) rfl]
      exact ih e fun j y hj ey => h (j + 1) y (by omega) ey
def CkInv (d : Addr) (v0 : V) (od : Obj) (kvs : List (Key × V)) (rs : List (Str × PyData)) (m : Nat) (H2 : Hp) (i : Nat) (σ : L2.St) (H' : Hp) : Prop := ∃ c, σ = [some (.ref d), some v0, c] ∧ H' d = some (.frz od (.dK kvs)) ∧ Kp [d] H2 H' ∧ ∀ j p, j < i → rs[j]? = some p → (!goodR m p) = false
def spCheck (C : Addr) : Sp := fun vs H Q E => ∃ (d : Addr) (kvs : List (Key × V)) (rs : List (Str × PyData)), vs = [.ref d] ∧ H d = some (.dK kvs) ∧ RowsD H kvs rs ∧ (kvs.map (·.1)).Nodup ∧ kvs.length ≤ 1000 ∧ (rowsBad rs = none → ∀ H', Kp [] H H' → Q .non H') ∧
  (∀ nm, rowsBad rs = some nm → ∀ (e : Addr) (H' : Hp), H e = none → H' e = some (.xd [("name", .str nm)]) → Kp [] H H' → E (.ref C) (some e) H')
theorem ok_check_rows {f : Addr} {fd : FuncData} (D : Df K mg "check_rows" s_check_rows ["rows"] f fd) (T : Bt mg tL t1 t2) {BT fB : Addr} {fdB : FuncData} (E_BadTable : Er1 P w K mg base "BadTable" "name" BT fB fdB ["self", "name"] (fun _ => True)) {fa : Addr} {fda : FuncData} (D_is_name : Df K mg "is_name" s_is_name ["value"] fa fda) (G_is_name : FnOk P w K mg base CX0 1 fa fda ["value"] (spD (fun _ => True) nameD))
    {fr : Addr} {fdr : FuncData} (D_is_row : Df K mg "is_row" s_is_row ["row"] fr fdr) (G_is_row : FnOk P w K mg base CX0 4 fr fdr ["row"] (spD (fun d => ∀ ds, d = .list ds → ds.length ≤ 1000) rowD)) : FnOk P w K mg base (L2.CX P w) 5 f fd ["rows"] (spCheck BT) := by
  refine D.F.okX sc_check_rows (fun vs H Q E h => ?_) (fun cdv A outer s H vs Q E hr h => ?_)
  · obtain ⟨d, _, _, rfl, _⟩ := h
    rfl
  · obtain ⟨d, kvs, rs, rfl, hd, hrs, nd, kl, qG, qB⟩ := h
    have hu := hu_of hr
    refine ⟨_, (pss_cons (ps_if (pt_not (pt_chain op_le op_le pe_int (pe_callB call_lenD (by rfl) T.b_len PySem.boot_len (pa_cons (pv 0) pa_nil)) (pe_glob (v := .int 6) rfl T.c_MOST_OPERATIONS ⟨_, rfl⟩))) (pss_one (ps_raise rfl (takes_of rfl rfl rfl rfl) (pmk_oex E_BadTable.ox E_BadTable.ic E_BadTable.ti E_BadTable.G (hr.mono (by decide)) E_BadTable.b .nil passL rfl E_BadTable.k (pa_cons pe_str pa_nil)))) pss_nil)
      (pss_cons (ps_set (i := 1) sc_check_rows.nd rfl (Or.inl rfl) (pe_ix (r := rIxL K) ix_list (pe_callTy (T := "list") (r := rListV) (call_listV rfl) (by rfl) T.b_list (by decide +kernel) (pa_cons (pe_values (pv 0)) pa_nil)) pe_int (fun _ _ => rfl)))
      (pss_one (ps_lock (ps_for (passes_of rfl) rfl (pi_keys (pv 0)) (pg_name (i := 2) sc_check_rows.nd rfl (Or.inl rfl)) (pss_one (ps_if (PW.pt (pw_or (pt_not (pt_val (pe_call G_is_name (hr.mono (by decide)) rfl D_is_name.g D_is_name.F.kp D_is_name.b .nil pass0 (pa_cons (pv 2) pa_nil)))) (pw_or (pt_not (pt_val (pe_call G_is_row (hr.mono (by decide)) rfl D_is_row.g D_is_row.F.kp D_is_row.b .nil pass0 (pa_cons (pe_dget hu (pv 0) (pv 2) (fun _ _ => rfl)) pa_nil)))) (pw_or1 (pt_cmpR op_ne (pe_callB (id := "len") (r := Evl.rLenS K) call_len_seq (by rfl) T.b_len PySem.boot_len (pa_cons (pe_dget hu (pv 0) (pv 2) (fun _ _ => rfl)) pa_nil)) (pe_callB (id := "len") (r := Evl.rLenS K) call_len_seq (by rfl) T.b_len PySem.boot_len (pa_cons (pv 1) pa_nil)) (nomark _)))))) (pss_one (ps_raise rfl (takes_lock (takes_of rfl rfl rfl rfl)) (pmk_oex E_BadTable.ox E_BadTable.ic E_BadTable.ti E_BadTable.G (hr.mono (by decide)) E_BadTable.b .nil passL rfl E_BadTable.k (pa_cons (pv 2) pa_nil)))) pss_nil))))))), ?_⟩
    have err : ∀ (nm : Str) (H1 : Hp), Kp [] H H1 → rowsBad rs = some nm → ([V.str nm] : List V).length ≤ 1000 ∧ ∀ a, H1 a = none → spErr1 BT "name" (fun _ => True) (.ref a :: ([V.str nm] ++ [])) (upd H1 a (exo a BT none)) (fun v H2 => v = .non ∧ ∃ (d : Addr) (fs : List (Str × V)), H2 a = some (exo a BT (some d)) ∧ H2 d = some (exd d fs) ∧ H1 d = none ∧ E (.ref BT) (some d) (upd (del H2 a) d (.xd fs))) (fun _ _ _ => False) := fun nm H1 kp hb =>
      err1_made (P := fun _ => True) True.intro fun e H' ne he k => qB nm hb e H' (kp.free0 ne) he (kp.trans k)
    try simp only [tSeq, tIfS, tTest, tOp, tUn, tCB, tCons, tNil, tVar, tC, rI0, rI, rU, rEq, rNe, tRet, tRetN, tAsg, gName, gSub, tBM, tBM0, tNext, tB, tNot, tAnd, tOr, tIf, tCall, tDrop, tBreak, tCont, L2.start, tDGet, sDPut, tTup, tLst, tDNewK, tRevL, rCat, rAppend, rPop, rSetL, tAndV, tOrV, tNotV, tSl, tPart, tNoPart, tM1, gTup, gCons, gNil, cxK, cxnK, List.map_cons, List.map_nil, List.length_cons, List.length_nil, List.replicate, List.cons_append, List.nil_append, List.append_nil, List.set_cons_zero, List.set_cons_succ, List.getElem?_cons_zero, List.getElem?_cons_succ, Option.some.injEq, V.ref.injEq, V.int.injEq, V.str.injEq, V.bl.injEq, V.ty.injEq, exists_eq_left', exists_eq_left, exists_and_left, List.cons.injEq, and_true, true_and, sc_ii, sc_ss, sc_bb, sc_ni, sc_in, sc_is, sc_si, sc_nn, decide_true, decide_false, reduceCtorEq, Bool.false_eq_true, if_true, if_false, ite_true, ite_false, exists_const, eq_self, false_and, and_false, or_false, false_or, exists_false, Evl.rLenS, rSum, wipe, tYes, exists_eq, exists_eq', rIxL, rIxT, rIxS, exists_and_right, gt_iff_lt, not_true_eq_false, not_false_eq_true, Bool.not_true, Bool.not_false, decide_eq_true_eq, Nat.reduceSub, Nat.reduceAdd, List.append_assoc, tChain, tDIn, tDNotIn, sDDel, tAug, ipI]
    refine ⟨kvs, hd, ?_⟩
    have hlen := hrs.1
    cases hr0 : rs with
    | nil =>
      have z0 : kvs.length = 0 := by rw [hlen, hr0]; rfl
      rw [if_neg (by omega)]
      exact err "" H (Kp.refl _ _) (by rw [hr0]; rfl)
    | cons p0 rr =>
      have zl : kvs.length = rr.length + 1 := by rw [hlen, hr0]; rfl
      rw [if_pos (by omega)]
      by_cases h7 : 7 ≤ (p0 :: rr).length
      · have h7' : 7 ≤ rr.length + 1 := h7
        have e6 : ¬ ((kvs.length : Nat) : Int) ≤ 6 := by omega
        rw [decide_eq_false e6]
        exact err "" H (Kp.refl _ _) (by rw [hr0]; exact if_pos h7)
      · have h7' : rr.length + 1 < 7 := Nat.lt_of_not_le h7
        have e6 : ((kvs.length : Nat) : Int) ≤ 6 := by omega
        rw [decide_eq_true e6]
        have rb : rowsBad rs = ((p0 :: rr).find? fun q => !goodR (lenD p0.2) q).map (·.1) := by rw [hr0]; exact if_neg h7
        obtain ⟨⟨k0, v0⟩, kr, hk0⟩ : ∃ q r, kvs = q :: r := by
          cases kvs with
          | nil => simp at zl
          | cons q r => exact ⟨q, r, rfl⟩
        refine ⟨.ref d, rfl, d, kvs, rfl, hd, fun q nq => ?_⟩
        have hdq : (upd H q (viewO q d)) d = some (.dK kvs) := by rw [upd_ne (ne_of_none hd nq)]; exact hd
        refine ⟨q, d, kvs, rfl, upd_same, hdq, fun l nl => ⟨l, rfl, _, sq_l upd_same, v0, atI_of (by decide) (by rw [hk0]; rfl), ?_⟩⟩
        have k2 : Kp [] H (upd (upd H q (viewO q d)) l (.lst (kvs.map fun kv => kv.2))) := (Kp.new nq).trans (Kp.new nl)
        generalize upd (upd H q (viewO q d)) l (.lst (kvs.map fun kv => kv.2)) = H2 at k2 ⊢
        have hd2 := k2 _ _ not0 hd
        refine ⟨d, .dK kvs, hd2, True.intro, fun od => ?_⟩
        have nf : ∀ o v, (cxOf (L2.CX P w) P w K mg base ["rows", "first_row", "name"] "check_rows" (defScope s_check_rows) f cdv A outer s H E).H_0 d ≠ some (.frz o v) := fun o v z => by
          rw [show (cxOf (L2.CX P w) P w K mg base ["rows", "first_row", "name"] "check_rows" (defScope s_check_rows) f cdv A outer s H E).H_0 d = H d from rfl, hd] at z
          cases z
        have dno : ∀ a ∈ [d], ∀ xs, H2 a ≠ some (.tup xs) ∧ H2 a ≠ some (.lst xs) := fun a ha xs => by
          rw [List.mem_singleton.mp ha, hd2]
          exact ⟨fun z => (by cases z), fun z => (by cases z)⟩
        have kl0 : Kp [d] H2 (upd H2 d (.frz od (.dK kvs))) := (Kp.refl [d] _).put List.mem_cons_self
        refine ⟨.ref d, rfl, d, od, rfl, .inl ⟨kvs, upd_same, for_it walk_keys (CkInv d v0 od kvs rs (lenD p0.2) H2) ⟨_, rfl, upd_same, kl0, fun j p hj => absurd hj (by omega)⟩ (fun i σ H' _ h => by obtain ⟨_, _, e, _⟩ := h; exact e) ?_ ?_⟩⟩
        · rintro i x σ H3 H4 hi ⟨c, rfl, hf3, k3, hg⟩ ⟨rfl, k, v, ek, rfl⟩
          obtain ⟨n, dd, rfl, er, hq, szd, bnd, nl3⟩ := hrs.2 i k v ek
          have hq3 := (hq.kp k2).kpN k3 dno
          have bad : (!goodR (lenD p0.2) (n, dd)) = true → ∀ (H5 : Hp), Kp [] H4 H5 → rowsBad rs = some n := fun z H5 _ => by
            rw [rb, find_first (x := (n, dd)) (i := i) (by rw [← hr0]; exact er) z (fun j y hj ey => hg j y hj (by rw [hr0]; exact ey))]; rfl
          try simp only [tSeq, tIfS, tTest, tOp, tUn, tCB, tCons, tNil, tVar, tC, rI0, rI, rU, rEq, rNe, tRet, tRetN, tAsg, gName, gSub, tBM, tBM0, tNext, tB, tNot, tAnd, tOr, tIf, tCall, tDrop, tBreak, tCont, L2.start, tDGet, sDPut, tTup, tLst, tDNewK, tRevL, rCat, rAppend, rPop, rSetL, tAndV, tOrV, tNotV, tSl, tPart, tNoPart, tM1, gTup, gCons, gNil, cxK, cxnK, List.map_cons, List.map_nil, List.length_cons, List.length_nil, List.replicate, List.cons_append, List.nil_append, List.append_nil, List.set_cons_zero, List.set_cons_succ, List.getElem?_cons_zero, List.getElem?_cons_succ, Option.some.injEq, V.ref.injEq, V.int.injEq, V.str.injEq, V.bl.injEq, V.ty.injEq, exists_eq_left', exists_eq_left, exists_and_left, List.cons.injEq, and_true, true_and, sc_ii, sc_ss, sc_bb, sc_ni, sc_in, sc_is, sc_si, sc_nn, decide_true, decide_false, reduceCtorEq, Bool.false_eq_true, if_true, if_false, ite_true, ite_false, exists_const, eq_self, false_and, and_false, or_false, false_or, exists_false, Evl.rLenS, rSum, wipe, tYes, exists_eq, exists_eq', rIxL, rIxT, rIxS, exists_and_right, gt_iff_lt, not_true_eq_false, not_false_eq_true, Bool.not_true, Bool.not_false, decide_eq_true_eq, Nat.reduceSub, Nat.reduceAdd, List.append_assoc, tChain, tDIn, tDNotIn, sDDel, tAug, ipI]
          refine ⟨.str n, .str n, rfl, .str n, by simp [szD, nl3], True.intro, fun H5 k5 => ?_⟩
          have hf4 := k5 _ _ not0 hf3
          have errL : ∀ (H6 : Hp), Kp [] H4 H6 → (!goodR (lenD p0.2) (n, dd)) = true → tMkO BT (spErr1 BT "name" fun _ => True) [] (tCons (tVar 2) tNil) [some (.ref d), some v0, some (.str n)] H6 (fun cls d_1 H' => WLock (cxOf (L2.CX P w) P w K mg base ["rows", "first_row", "name"] "check_rows" (defScope s_check_rows) f cdv A outer s H E) (fun cls d x H => E cls d H) cls d_1 [some (.ref d), some v0, some (.str n)] H') := fun H6 k6 hb => by
            have hf6 := k6 _ _ not0 hf3
            have k36 : Kp [d] H2 H6 := k3.trans k6.of0
            have key := err1_made (C := BT) (f := "name") (P := fun _ => True) (v := .str n) (H1 := H6) (Q := fun cls d_1 H' => WLock (cxOf (L2.CX P w) P w K mg base ["rows", "first_row", "name"] "check_rows" (defScope s_check_rows) f cdv A outer s H E) (fun cls d x H => E cls d H) cls d_1 [some (.ref d), some v0, some (.str n)] H') True.intro (fun e H' ne he k => by
              have ed : e ≠ d := fun z => by rw [z, hf6] at ne; cases ne
              exact ⟨d, .dK kvs, od, k _ _ not0 hf6, nf, qB n (bad hb H6 k6) e _ ((k2.trans (unl k36 hd2)).free0 (by rw [upd_ne ed]; exact ne)) (by rw [upd_ne ed]; exact he) (k2.trans (unl (k36.trans k.of0) hd2))⟩)
            exact ⟨.str n, rfl, key⟩
          have en : nameD (.str n) = nameS n := rfl
          rw [en]
          cases hns : nameS n with
          | false =>
            try simp only [tSeq, tIfS, tTest, tOp, tUn, tCB, tCons, tNil, tVar, tC, rI0, rI, rU, rEq, rNe, tRet, tRetN, tAsg, gName, gSub, tBM, tBM0, tNext, tB, tNot, tAnd, tOr, tIf, tCall, tDrop, tBreak, tCont, L2.start, tDGet, sDPut, tTup, tLst, tDNewK, tRevL, rCat, rAppend, rPop, rSetL, tAndV, tOrV, tNotV, tSl, tPart, tNoPart, tM1, gTup, gCons, gNil, cxK, cxnK, List.map_cons, List.map_nil, List.length_cons, List.length_nil, List.replicate, List.cons_append, List.nil_append, List.append_nil, List.set_cons_zero, List.set_cons_succ, List.getElem?_cons_zero, List.getElem?_cons_succ, Option.some.injEq, V.ref.injEq, V.int.injEq, V.str.injEq, V.bl.injEq, V.ty.injEq, exists_eq_left', exists_eq_left, exists_and_left, List.cons.injEq, and_true, true_and, sc_ii, sc_ss, sc_bb, sc_ni, sc_in, sc_is, sc_si, sc_nn, decide_true, decide_false, reduceCtorEq, Bool.false_eq_true, if_true, if_false, ite_true, ite_false, exists_const, eq_self, false_and, and_false, or_false, false_or, exists_false, Evl.rLenS, rSum, wipe, tYes, exists_eq, exists_eq', rIxL, rIxT, rIxS, exists_and_right, gt_iff_lt, not_true_eq_false, not_false_eq_true, Bool.not_true, Bool.not_false, decide_eq_true_eq, Nat.reduceSub, Nat.reduceAdd, List.append_assoc, tChain, tDIn, tDNotIn, sDDel, tAug, ipI]
            exact errL H5 k5 (by unfold goodR; rw [hns]; rfl)
          | true =>
            try simp only [tSeq, tIfS, tTest, tOp, tUn, tCB, tCons, tNil, tVar, tC, rI0, rI, rU, rEq, rNe, tRet, tRetN, tAsg, gName, gSub, tBM, tBM0, tNext, tB, tNot, tAnd, tOr, tIf, tCall, tDrop, tBreak, tCont, L2.start, tDGet, sDPut, tTup, tLst, tDNewK, tRevL, rCat, rAppend, rPop, rSetL, tAndV, tOrV, tNotV, tSl, tPart, tNoPart, tM1, gTup, gCons, gNil, cxK, cxnK, List.map_cons, List.map_nil, List.length_cons, List.length_nil, List.replicate, List.cons_append, List.nil_append, List.append_nil, List.set_cons_zero, List.set_cons_succ, List.getElem?_cons_zero, List.getElem?_cons_succ, Option.some.injEq, V.ref.injEq, V.int.injEq, V.str.injEq, V.bl.injEq, V.ty.injEq, exists_eq_left', exists_eq_left, exists_and_left, List.cons.injEq, and_true, true_and, sc_ii, sc_ss, sc_bb, sc_ni, sc_in, sc_is, sc_si, sc_nn, decide_true, decide_false, reduceCtorEq, Bool.false_eq_true, if_true, if_false, ite_true, ite_false, exists_const, eq_self, false_and, and_false, or_false, false_or, exists_false, Evl.rLenS, rSum, wipe, tYes, exists_eq, exists_eq', rIxL, rIxT, rIxS, exists_and_right, gt_iff_lt, not_true_eq_false, not_false_eq_true, Bool.not_true, Bool.not_false, decide_eq_true_eq, Nat.reduceSub, Nat.reduceAdd, List.append_assoc, tChain, tDIn, tDNotIn, sDDel, tAug, ipI]
            have vget : valV kvs (Sum.inr n) = some v := valV_mem nd (List.mem_of_getElem? ek)
            refine ⟨v, .inl ⟨kvs, Sum.inr n, .inr ⟨od, hf4⟩, rfl, vget.symm⟩, ?_⟩
            refine ⟨v, dd, rfl, hq3.kp k5, szd, bnd, fun H6 k6 => ?_⟩
            have k46 := k5.trans k6
            cases hrd : rowD dd with
            | false =>
              try simp only [tSeq, tIfS, tTest, tOp, tUn, tCB, tCons, tNil, tVar, tC, rI0, rI, rU, rEq, rNe, tRet, tRetN, tAsg, gName, gSub, tBM, tBM0, tNext, tB, tNot, tAnd, tOr, tIf, tCall, tDrop, tBreak, tCont, L2.start, tDGet, sDPut, tTup, tLst, tDNewK, tRevL, rCat, rAppend, rPop, rSetL, tAndV, tOrV, tNotV, tSl, tPart, tNoPart, tM1, gTup, gCons, gNil, cxK, cxnK, List.map_cons, List.map_nil, List.length_cons, List.length_nil, List.replicate, List.cons_append, List.nil_append, List.append_nil, List.set_cons_zero, List.set_cons_succ, List.getElem?_cons_zero, List.getElem?_cons_succ, Option.some.injEq, V.ref.injEq, V.int.injEq, V.str.injEq, V.bl.injEq, V.ty.injEq, exists_eq_left', exists_eq_left, exists_and_left, List.cons.injEq, and_true, true_and, sc_ii, sc_ss, sc_bb, sc_ni, sc_in, sc_is, sc_si, sc_nn, decide_true, decide_false, reduceCtorEq, Bool.false_eq_true, if_true, if_false, ite_true, ite_false, exists_const, eq_self, false_and, and_false, or_false, false_or, exists_false, Evl.rLenS, rSum, wipe, tYes, exists_eq, exists_eq', rIxL, rIxT, rIxS, exists_and_right, gt_iff_lt, not_true_eq_false, not_false_eq_true, Bool.not_true, Bool.not_false, decide_eq_true_eq, Nat.reduceSub, Nat.reduceAdd, List.append_assoc, tChain, tDIn, tDNotIn, sDDel, tAug, ipI]
              exact errL H6 k46 (by unfold goodR; rw [hns, hrd]; rfl)
            | true =>
              try simp only [tSeq, tIfS, tTest, tOp, tUn, tCB, tCons, tNil, tVar, tC, rI0, rI, rU, rEq, rNe, tRet, tRetN, tAsg, gName, gSub, tBM, tBM0, tNext, tB, tNot, tAnd, tOr, tIf, tCall, tDrop, tBreak, tCont, L2.start, tDGet, sDPut, tTup, tLst, tDNewK, tRevL, rCat, rAppend, rPop, rSetL, tAndV, tOrV, tNotV, tSl, tPart, tNoPart, tM1, gTup, gCons, gNil, cxK, cxnK, List.map_cons, List.map_nil, List.length_cons, List.length_nil, List.replicate, List.cons_append, List.nil_append, List.append_nil, List.set_cons_zero, List.set_cons_succ, List.getElem?_cons_zero, List.getElem?_cons_succ, Option.some.injEq, V.ref.injEq, V.int.injEq, V.str.injEq, V.bl.injEq, V.ty.injEq, exists_eq_left', exists_eq_left, exists_and_left, List.cons.injEq, and_true, true_and, sc_ii, sc_ss, sc_bb, sc_ni, sc_in, sc_is, sc_si, sc_nn, decide_true, decide_false, reduceCtorEq, Bool.false_eq_true, if_true, if_false, ite_true, ite_false, exists_const, eq_self, false_and, and_false, or_false, false_or, exists_false, Evl.rLenS, rSum, wipe, tYes, exists_eq, exists_eq', rIxL, rIxT, rIxS, exists_and_right, gt_iff_lt, not_true_eq_false, not_false_eq_true, Bool.not_true, Bool.not_false, decide_eq_true_eq, Nat.reduceSub, Nat.reduceAdd, List.append_assoc, tChain, tDIn, tDNotIn, sDDel, tAug, ipI]
              refine ⟨v, .inl ⟨kvs, Sum.inr n, .inr ⟨od, k6 _ _ not0 hf4⟩, rfl, vget.symm⟩, ?_⟩
              have isL : ∀ {dd : PyData}, rowD dd = true → ∃ ds, dd = .list ds := fun {dd} h => by
                cases dd <;> first | exact ⟨_, rfl⟩ | cases h
              obtain ⟨ds, rfl⟩ := isL hrd
              obtain ⟨n0, d0, _, er0, hq0, _, _, _⟩ := hrs.2 0 k0 v0 (by rw [hk0]; rfl)
              have ep0 : p0 = (n0, d0) := by rw [hr0] at er0; exact Option.some.inj er0
              have hrd0 : rowD d0 = true := by
                by_cases z : i = 0
                · subst z
                  rw [er] at er0
                  cases er0
                  exact hrd
                · have g0 := hg 0 (n0, d0) (by omega) er0
                  unfold goodR at g0
                  cases h : rowD d0 with
                  | true => rfl
                  | false => rw [h] at g0; cases hz : nameS n0 <;> rw [hz] at g0 <;> cases g0
              obtain ⟨ds0, rfl⟩ := isL hrd0
              have hq6 := hq3.kp k46
              have hq06 := ((hq0.kp k2).kpN k3 dno).kp k46
              cases hq6 with
              | lst e1 a1 =>
              cases hq06 with
              | lst e2 a2 =>
              refine ⟨_, rfl, _, .inl (sq_l e1), _, rfl, _, .inl (sq_l e2), ?_⟩
              rw [a1.len, a2.len]
              have lp : lenD p0.2 = ds0.length := by rw [ep0]; rfl
              by_cases hz : ds.length = ds0.length
              · have e3 : ((ds.length : Nat) : Int) = (ds0.length : Nat) := by omega
                try simp only [tSeq, tIfS, tTest, tOp, tUn, tCB, tCons, tNil, tVar, tC, rI0, rI, rU, rEq, rNe, tRet, tRetN, tAsg, gName, gSub, tBM, tBM0, tNext, tB, tNot, tAnd, tOr, tIf, tCall, tDrop, tBreak, tCont, L2.start, tDGet, sDPut, tTup, tLst, tDNewK, tRevL, rCat, rAppend, rPop, rSetL, tAndV, tOrV, tNotV, tSl, tPart, tNoPart, tM1, gTup, gCons, gNil, cxK, cxnK, List.map_cons, List.map_nil, List.length_cons, List.length_nil, List.replicate, List.cons_append, List.nil_append, List.append_nil, List.set_cons_zero, List.set_cons_succ, List.getElem?_cons_zero, List.getElem?_cons_succ, Option.some.injEq, V.ref.injEq, V.int.injEq, V.str.injEq, V.bl.injEq, V.ty.injEq, exists_eq_left', exists_eq_left, exists_and_left, List.cons.injEq, and_true, true_and, sc_ii, sc_ss, sc_bb, sc_ni, sc_in, sc_is, sc_si, sc_nn, decide_true, decide_false, reduceCtorEq, Bool.false_eq_true, if_true, if_false, ite_true, ite_false, exists_const, eq_self, false_and, and_false, or_false, false_or, exists_false, Evl.rLenS, rSum, wipe, tYes, exists_eq, exists_eq', rIxL, rIxT, rIxS, exists_and_right, gt_iff_lt, not_true_eq_false, not_false_eq_true, Bool.not_true, Bool.not_false, decide_eq_true_eq, Nat.reduceSub, Nat.reduceAdd, List.append_assoc, tChain, tDIn, tDNotIn, sDDel, tAug, ipI, e3]
                refine ⟨_, rfl, k6 _ _ not0 hf4, k3.trans k46.of0, fun j p hj ej => ?_⟩
                by_cases zj : j = i
                · subst zj
                  rw [er] at ej
                  cases ej
                  unfold goodR
                  rw [hns, hrd, lp, show lenD (.list ds) = ds.length from rfl, hz]
                  simp
                · exact hg j p (by omega) ej
              · have e3 : ¬ ((ds.length : Nat) : Int) = (ds0.length : Nat) := by omega
                try simp only [tSeq, tIfS, tTest, tOp, tUn, tCB, tCons, tNil, tVar, tC, rI0, rI, rU, rEq, rNe, tRet, tRetN, tAsg, gName, gSub, tBM, tBM0, tNext, tB, tNot, tAnd, tOr, tIf, tCall, tDrop, tBreak, tCont, L2.start, tDGet, sDPut, tTup, tLst, tDNewK, tRevL, rCat, rAppend, rPop, rSetL, tAndV, tOrV, tNotV, tSl, tPart, tNoPart, tM1, gTup, gCons, gNil, cxK, cxnK, List.map_cons, List.map_nil, List.length_cons, List.length_nil, List.replicate, List.cons_append, List.nil_append, List.append_nil, List.set_cons_zero, List.set_cons_succ, List.getElem?_cons_zero, List.getElem?_cons_succ, Option.some.injEq, V.ref.injEq, V.int.injEq, V.str.injEq, V.bl.injEq, V.ty.injEq, exists_eq_left', exists_eq_left, exists_and_left, List.cons.injEq, and_true, true_and, sc_ii, sc_ss, sc_bb, sc_ni, sc_in, sc_is, sc_si, sc_nn, decide_true, decide_false, reduceCtorEq, Bool.false_eq_true, if_true, if_false, ite_true, ite_false, exists_const, eq_self, false_and, and_false, or_false, false_or, exists_false, Evl.rLenS, rSum, wipe, tYes, exists_eq, exists_eq', rIxL, rIxT, rIxS, exists_and_right, gt_iff_lt, not_true_eq_false, not_false_eq_true, Bool.not_true, Bool.not_false, decide_eq_true_eq, Nat.reduceSub, Nat.reduceAdd, List.append_assoc, tChain, tDIn, tDNotIn, sDDel, tAug, ipI, e3]
                refine errL H6 k46 ?_
                unfold goodR
                rw [hns, hrd, lp, show lenD (.list ds) = ds.length from rfl, beq_eq_false_iff_ne.mpr hz]; rfl
        · rintro σ H3 ⟨c, rfl, hf3, k3, hg⟩
          refine ⟨hf3, qG ?_ _ (k2.trans (unl k3 hd2))⟩
          rw [rb]
          have none_ : ((p0 :: rr).find? fun q => !goodR (lenD p0.2) q) = none := by
            rw [List.find?_eq_none]
            intro y hy
            obtain ⟨j, ej⟩ := List.getElem?_of_mem hy
            have hj : j < kvs.length := by
              have := (List.getElem?_eq_some_iff.mp ej).1
              rw [List.length_cons] at this
              omega
            rw [hg j y hj (by rw [hr0]; exact ej)]
            exact Bool.false_ne_true
          rw [none_]; rfl
end
end My

set_option Elab.async false
set_option linter.all false
set_option maxRecDepth 100000
set_option maxHeartbeats 4000000
namespace My
open PySem L2 NdefX
def rLstOf (K : PySem.W.Frag) : List V → Hp → VK → Prop := fun xs H Q => ∃ p ys, xs = [V.ref p] ∧ (SqL K H p ys ∨ SqT K H p ys) ∧ ∀ (l : Addr), H l = none → Q (V.ref l) (upd H l (HO.lst ys))
abbrev s_BadNumber_init : Stmt := mtop 2 0
theorem sc_BadNumber_init : NScope ["self", "number", "__class__"] ["self", "number"] ["__class__"] (defScope s_BadNumber_init) := nscope_by (by decide +kernel)
theorem ok_BadNumber_init {P : Program} {w : World} {K : PySem.W.Frag} {mg : Str → Option Value} {base : Heap} {CX : CXT} {f cc cda C : Addr} {fd : FuncData} (F : FunX K "__init__" "BadNumber.__init__" s_BadNumber_init f fd cc cda C) (T : ErrC K C) (G : CodeF K P cda) (hsup : mg "super" = none) (n1 : PySem.W.findIn K (.ref C) "number" = some none) {Pf : V → Prop} :
    FnOk P w K mg base CX 1 f fd ["self", "number"] (spErr1 C "number" Pf) := by
  have F0 := F
  obtain ⟨oc, od, kV, doc, pm, an, ct, osl, hfd, lk, hcd⟩ := F0.ex
  obtain ⟨cl, cld, csl, hcc⟩ := F0.cell
  refine F.ok sc_BadNumber_init (fun vs H Q E h => ?_) (fun A outer s H vs Q E hr h => ?_)
  · obtain ⟨a, v, rfl, _⟩ := h
    rfl
  · obtain ⟨a, v, rfl, hp, ha, q⟩ := h
    refine ⟨_, psat_cons (psat_sup T G lk (by rw [hfd]; rfl) hcc hsup rfl rfl rfl rfl rfl rfl rfl (pa_cons pe_str pa_nil) rfl rfl rfl rfl rfl) (pss_one (ps_ost (pv 0) (pv 1))), ?_⟩
    try simp only [tSeq, tIfS, tTest, tOp, tUn, tCB, tCons, tNil, tVar, tC, rI0, rI, rU, rEq, rNe, tRet, tRetN, tAsg, gName, gSub, tBM, tBM0, tNext, tB, tNot, tAnd, tOr, tIf, tCall, tDrop, tBreak, tCont, L2.start, tDGet, sDPut, tTup, tLst, tDNewK, tRevL, rCat, rAppend, rPop, rSetL, tAndV, tOrV, tNotV, tSl, tPart, tNoPart, tM1, gTup, gCons, gNil, cxK, cxnK, List.map_cons, List.map_nil, List.length_cons, List.length_nil, List.replicate, List.cons_append, List.nil_append, List.append_nil, List.set_cons_zero, List.set_cons_succ, List.getElem?_cons_zero, List.getElem?_cons_succ, Option.some.injEq, V.ref.injEq, V.int.injEq, V.str.injEq, V.bl.injEq, V.ty.injEq, exists_eq_left', exists_eq_left, exists_and_left, List.cons.injEq, and_true, true_and, sc_ii, sc_ss, sc_bb, sc_ni, sc_in, sc_is, sc_si, sc_nn, decide_true, decide_false, reduceCtorEq, Bool.false_eq_true, if_true, if_false, ite_true, ite_false, exists_const, eq_self, false_and, and_false, or_false, false_or, exists_false, Evl.rLenS, rSum, wipe, tYes, exists_eq, exists_eq', rIxL, rIxT, rIxS, exists_and_right, gt_iff_lt, not_true_eq_false, not_false_eq_true, Bool.not_true, Bool.not_false, decide_eq_true_eq, Nat.reduceSub, Nat.reduceAdd, List.append_assoc, tChain, tDIn, tDNotIn, sDDel, tAug, ipI, startF, tSupI, tOst]
    exact ⟨ha, by decide, ha, C, T.ox, n1, .inl ⟨ha, q⟩⟩
abbrev s_NoOperation_init : Stmt := mtop 5 0
theorem sc_NoOperation_init : NScope ["self", "name", "__class__"] ["self", "name"] ["__class__"] (defScope s_NoOperation_init) := nscope_by (by decide +kernel)
theorem ok_NoOperation_init {P : Program} {w : World} {K : PySem.W.Frag} {mg : Str → Option Value} {base : Heap} {CX : CXT} {f cc cda C : Addr} {fd : FuncData} (F : FunX K "__init__" "NoOperation.__init__" s_NoOperation_init f fd cc cda C) (T : ErrC K C) (G : CodeF K P cda) (hsup : mg "super" = none) (n1 : PySem.W.findIn K (.ref C) "name" = some none) {Pf : V → Prop} :
    FnOk P w K mg base CX 1 f fd ["self", "name"] (spErr1 C "name" Pf) := by
  have F0 := F
  obtain ⟨oc, od, kV, doc, pm, an, ct, osl, hfd, lk, hcd⟩ := F0.ex
  obtain ⟨cl, cld, csl, hcc⟩ := F0.cell
  refine F.ok sc_NoOperation_init (fun vs H Q E h => ?_) (fun A outer s H vs Q E hr h => ?_)
  · obtain ⟨a, v, rfl, _⟩ := h
    rfl
  · obtain ⟨a, v, rfl, hp, ha, q⟩ := h
    refine ⟨_, psat_cons (psat_sup T G lk (by rw [hfd]; rfl) hcc hsup rfl rfl rfl rfl rfl rfl rfl (pa_cons pe_str pa_nil) rfl rfl rfl rfl rfl) (pss_one (ps_ost (pv 0) (pv 1))), ?_⟩
    try simp only [tSeq, tIfS, tTest, tOp, tUn, tCB, tCons, tNil, tVar, tC, rI0, rI, rU, rEq, rNe, tRet, tRetN, tAsg, gName, gSub, tBM, tBM0, tNext, tB, tNot, tAnd, tOr, tIf, tCall, tDrop, tBreak, tCont, L2.start, tDGet, sDPut, tTup, tLst, tDNewK, tRevL, rCat, rAppend, rPop, rSetL, tAndV, tOrV, tNotV, tSl, tPart, tNoPart, tM1, gTup, gCons, gNil, cxK, cxnK, List.map_cons, List.map_nil, List.length_cons, List.length_nil, List.replicate, List.cons_append, List.nil_append, List.append_nil, List.set_cons_zero, List.set_cons_succ, List.getElem?_cons_zero, List.getElem?_cons_succ, Option.some.injEq, V.ref.injEq, V.int.injEq, V.str.injEq, V.bl.injEq, V.ty.injEq, exists_eq_left', exists_eq_left, exists_and_left, List.cons.injEq, and_true, true_and, sc_ii, sc_ss, sc_bb, sc_ni, sc_in, sc_is, sc_si, sc_nn, decide_true, decide_false, reduceCtorEq, Bool.false_eq_true, if_true, if_false, ite_true, ite_false, exists_const, eq_self, false_and, and_false, or_false, false_or, exists_false, Evl.rLenS, rSum, wipe, tYes, exists_eq, exists_eq', rIxL, rIxT, rIxS, exists_and_right, gt_iff_lt, not_true_eq_false, not_false_eq_true, Bool.not_true, Bool.not_false, decide_eq_true_eq, Nat.reduceSub, Nat.reduceAdd, List.append_assoc, tChain, tDIn, tDNotIn, sDDel, tAug, ipI, startF, tSupI, tOst]
    exact ⟨ha, by decide, ha, C, T.ox, n1, .inl ⟨ha, q⟩⟩
abbrev s_Table_init : Stmt := mtop 15 0
theorem sc_Table_init : FnScope ["self", "rows", "first", "name"] ["self", "rows", "first"] (defScope s_Table_init) := ⟨rfl, rfl, rfl, by decide +kernel, rfl, by decide +kernel, by decide +kernel⟩
abbrev s_Table_names : Stmt := mtop 15 1
theorem sc_Table_names : FnScope ["self"] ["self"] (defScope s_Table_names) := ⟨rfl, rfl, rfl, by decide +kernel, rfl, by decide +kernel, by decide +kernel⟩
abbrev s_Table_call : Stmt := mtop 15 2
theorem sc_Table_call : FnScope ["self", "name", "state"] ["self", "name", "state"] (defScope s_Table_call) := ⟨rfl, rfl, rfl, by decide +kernel, rfl, by decide +kernel, by decide +kernel⟩
abbrev s_Table_answers : Stmt := mtop 15 3
theorem sc_Table_answers : FnScope ["self", "calls", "name", "state", "found", "answer"] ["self", "calls"] (defScope s_Table_answers) := ⟨rfl, rfl, rfl, by decide +kernel, rfl, by decide +kernel, by decide +kernel⟩
abbrev s_Table_check_name : Stmt := mtop 15 5
theorem sc_Table_check_name : FnScope ["self", "name"] ["self", "name"] (defScope s_Table_check_name) := ⟨rfl, rfl, rfl, by decide +kernel, rfl, by decide +kernel, by decide +kernel⟩
/-- rows of data that are good stand at the dict's values -/
theorem RowsD.kpN {H H' : Hp} {S : List Addr} {kvs : List (Key × V)} {rs : List (Str × PyData)} (h : RowsD H kvs rs) (k : Kp S H H') (hS : ∀ a ∈ S, ∀ xs, H a ≠ some (.tup xs) ∧ H a ≠ some (.lst xs)) : RowsD H' kvs rs :=
  ⟨h.1, fun i key v e => by
    obtain ⟨n, d, a, b, c, r⟩ := h.2 i key v e
    exact ⟨n, d, a, b, c.kpN k hS, r⟩⟩
theorem RowsD.kp {H H' : Hp} {kvs : List (Key × V)} {rs : List (Str × PyData)} (h : RowsD H kvs rs) (k : Kp [] H H') : RowsD H' kvs rs := h.kpN k fun a m => absurd m (by simp)
/-- what the class Table has for the objects -/
structure TbC (K : PySem.W.Frag) (mg : Str → Option Value) (TC : Addr) : Prop where
  k : mg "Table" = some (.ref TC)
  cl : Cls K TC
  n1 : NoAttr K TC "size"
  n2 : NoAttr K TC "first"
  n3 : NoAttr K TC "_rows"
/-- at o a Table of the good rows rs -/
def TabAt (TC : Addr) (H : Hp) (o : Addr) (m : Nat) (first : Int) (rs : List (Str × PyData)) : Prop := ∃ (dx d : Addr) (kvs : List (Key × V)), H o = some (.ins TC dx [("size", .int (m : Nat)), ("first", .int first), ("_rows", .ref d)]) ∧ H d = some (.dK kvs) ∧ RowsD H kvs rs ∧ (kvs.map (·.1)).Nodup ∧ rowsBad rs = none ∧ m = lenD (rs.headD ("", .none)).2 ∧ 0 ≤ first ∧ first < m
theorem TabAt.kp {TC : Addr} {H H' : Hp} {o : Addr} {m : Nat} {first : Int} {rs : List (Str × PyData)} (h : TabAt TC H o m first rs) (k : Kp [] H H') : TabAt TC H' o m first rs := by
  obtain ⟨dx, d, kvs, a, b, c, r⟩ := h
  exact ⟨dx, d, kvs, k _ _ not0 a, k _ _ not0 b, c.kp k, r⟩
/-- the table at o stands whatever becomes of what was there at H, but for tuples -/
def TabOwn (TC : Addr) (H H' : Hp) (o : Addr) (m : Nat) (first : Int) (rs : List (Str × PyData)) : Prop := ∀ H'' : Hp, (∀ a u, H' a = some u → (a = o ∨ H a = none ∨ ∃ xs, u = .tup xs) → H'' a = some u) → TabAt TC H'' o m first rs
def spTI (TC BT : Addr) : Sp := fun vs H Q E => ∃ (o dx d : Addr) (vf : V) (df : PyData) (kvs : List (Key × V)) (rs : List (Str × PyData)), vs = [.ref o, .ref d, vf] ∧ H o = some (.ins TC dx []) ∧ H d = some (.dK kvs) ∧ RowsD H kvs rs ∧ (kvs.map (·.1)).Nodup ∧ kvs.length ≤ 1000 ∧ Dq H vf df ∧
  (rowsBad rs = none → ∀ i : Int, df = .int i → 0 ≤ i → i < lenD (rs.headD ("", .none)).2 → ∀ H', TabAt TC H' o (lenD (rs.headD ("", .none)).2) i rs → TabOwn TC H H' o (lenD (rs.headD ("", .none)).2) i rs → Kp [o] H H' → Q .non H') ∧
  (∀ nm, (rowsBad rs = some nm ∨ (rowsBad rs = none ∧ belowD (lenD (rs.headD ("", .none)).2) df = false ∧ nm = ("" : Str))) → ∀ (e : Addr) (H' : Hp), H e = none → H' e = some (.xd [("name", .str nm)]) → Kp [o] H H' → E (.ref BT) (some e) H')
theorem rowsBad_none {rs : List (Str × PyData)} (h : rowsBad rs = none) : rs ≠ [] ∧ rs.length ≤ 6 ∧ ∀ q ∈ rs, goodR (lenD (rs.headD ("", .none)).2) q = true := by
  cases rs with
  | nil => cases h
  | cons p r =>
    have h : (if 7 ≤ (p :: r).length then some ("" : Str) else ((p :: r).find? fun q => !goodR (lenD p.2) q).map (·.1)) = none := h
    by_cases z : 7 ≤ (p :: r).length
    · rw [if_pos z] at h; cases h
    · rw [if_neg z] at h
      refine ⟨by simp, by omega, fun q hq => ?_⟩
      have h2 : ((p :: r).find? fun q => !goodR (lenD p.2) q) = none := by
        cases e : ((p :: r).find? fun q => !goodR (lenD p.2) q) with
        | none => rfl
        | some x => rw [e] at h; cases h
      have h3 := List.find?_eq_none.mp h2 q hq
      show goodR (lenD p.2) q = true
      simpa using h3
theorem isL {dd : PyData} (h : rowD dd = true) : ∃ ds, dd = .list ds := by
  cases dd <;> first | exact ⟨_, rfl⟩ | cases h
theorem goodR_row {m : Nat} {n : Str} {d : PyData} (h : goodR m (n, d) = true) : nameS n = true ∧ ∃ ds, d = .list ds ∧ rowD (.list ds) = true ∧ ds.length = m := by
  unfold goodR at h
  rw [Bool.and_eq_true, Bool.and_eq_true, beq_iff_eq] at h
  obtain ⟨ds, rfl⟩ := isL h.2.1
  exact ⟨h.1, ds, rfl, h.2.1, h.2.2⟩
theorem belowD_int {m : Int} {d : PyData} (h : belowD m d = true) : ∃ i : Int, d = .int i ∧ 0 ≤ i ∧ i < m := by
  cases d with
  | int i =>
    have h' : (decide (0 ≤ i) && decide (i < m)) = true := h
    rw [Bool.and_eq_true, decide_eq_true_eq, decide_eq_true_eq] at h'
    exact ⟨i, rfl, h'⟩
  | _ => cases h
theorem ins_no {H : Hp} {o C dx : Addr} {fs : List (Str × V)} (e : H o = some (.ins C dx fs)) : ∀ a ∈ [o], ∀ xs, H a ≠ some (.tup xs) ∧ H a ≠ some (.lst xs) := fun a m xs => by
  rw [List.mem_singleton.mp m, e]
  exact ⟨fun z => (by cases z), fun z => (by cases z)⟩
theorem RowsD.app {H : Hp} {kvs : List (Key × V)} {rs : List (Str × PyData)} (h : RowsD H kvs rs) {n : Str} {v : V} {dd : PyData} (hq : Dq H v dd) (sz : szD dd = true) (bnd : ∀ ds, dd = .list ds → ds.length ≤ 1000) (nl : n.length ≤ 1000) : RowsD H (kvs ++ [(Sum.inr n, v)]) (rs ++ [(n, dd)]) := by
  refine ⟨by simp [h.1], fun i k x e => ?_⟩
  rcases Nat.lt_trichotomy i kvs.length with z | z | z
  · rw [List.getElem?_append_left z] at e
    obtain ⟨n', d', a, b, c⟩ := h.2 i k x e
    exact ⟨n', d', a, by rw [List.getElem?_append_left (by rw [← h.1]; exact z)]; exact b, c⟩
  · subst z
    rw [List.getElem?_append_right (Nat.le_refl _), Nat.sub_self] at e
    cases e
    refine ⟨n, dd, rfl, ?_, hq, sz, bnd, nl⟩
    rw [List.getElem?_append_right (by rw [h.1]; exact Nat.le_refl _), h.1, Nat.sub_self]; rfl
  · rw [List.getElem?_append_right (by omega), List.getElem?_eq_none (by simp; omega)] at e
    cases e
theorem nd_fresh {α : Type} {l : List α} {j : Nat} {x : α} (nd : l.Nodup) (e : l[j]? = some x) : x ∉ l.take j := fun m => by
  obtain ⟨i, hi, ei⟩ := List.mem_iff_getElem.mp m
  rw [List.length_take] at hi
  rw [List.getElem_take] at ei
  obtain ⟨hj, ej⟩ := List.getElem?_eq_some_iff.mp e
  have := (List.getElem_inj nd).mp (ei.trans ej.symm)
  omega
theorem valV_fresh {kvs : List (Key × V)} {k : Key} (h : k ∉ kvs.map (·.1)) : valV kvs k = none := by
  induction kvs with
  | nil => rfl
  | cons p r ih =>
    rw [List.map_cons, List.mem_cons, not_or] at h
    have e := ih h.2
    unfold valV at e ⊢
    simp [Ne.symm h.1, e]
/-- ahead of the i-th name: the new dict at D has the rows of those before, as new lists -/
def CopyIn (d : Addr) (od : Obj) (kvs : List (Key × V)) (rs : List (Str × PyData)) (D : Addr) (H2 : Hp) (i : Nat) (H' : Hp) : Prop := H' d = some (.frz od (.dK kvs)) ∧ Kp [] H2 H' ∧ ∃ kvs', H' D = some (.dK kvs') ∧ RowsD H' kvs' (rs.take i) ∧ kvs'.map (·.1) = (kvs.map (·.1)).take i ∧ ∀ k v, (k, v) ∈ kvs' → ∃ p, v = .ref p ∧ H2 p = none
theorem Dq.pair_up {H' H'' : Hp} {m : Int} {d : PyData} {v : V} (h : Dq H' v d) (hp : pairD m d = true) (k : ∀ a xs, H' a = some (.tup xs) → H'' a = some (.tup xs)) : Dq H'' v d := by
  unfold pairD at hp
  split at hp
  · rw [Bool.and_eq_true] at hp
    obtain ⟨i, rfl, _⟩ := belowD_int hp.1
    obtain ⟨j, rfl, _⟩ := belowD_int hp.2
    cases h with
    | tup e hs =>
    cases hs with
    | cons h1 ht =>
    cases ht with
    | cons h2 ht2 =>
    cases h1
    cases h2
    cases ht2
    exact .tup (k _ _ e) (.cons (.int _) (.cons (.int _) .nil))
  · cases hp
theorem DqAll.pair_up {H' H'' : Hp} {m : Int} (k : ∀ a xs, H' a = some (.tup xs) → H'' a = some (.tup xs)) : ∀ {ds : List PyData} {vs : List V}, DqAll H' vs ds → (∀ d ∈ ds, pairD m d = true) → DqAll H'' vs ds
  | _, _, .nil, _ => .nil
  | _, _, .cons h t, g => .cons (h.pair_up (g _ List.mem_cons_self) k) (DqAll.pair_up k t fun d hd => g d (List.mem_cons_of_mem _ hd))
/-- rows whose lists are new stand by themselves -/
theorem RowsD.own {H H' H'' : Hp} {kvs : List (Key × V)} {rs : List (Str × PyData)} {m : Nat} (h : RowsD H' kvs rs) (gd : ∀ q ∈ rs, goodR m q = true) (nw : ∀ k v, (k, v) ∈ kvs → ∃ p, v = .ref p ∧ H p = none) (up : ∀ a u, H' a = some u → (H a = none ∨ ∃ xs, u = .tup xs) → H'' a = some u) : RowsD H'' kvs rs := by
  refine ⟨h.1, fun i k v e => ?_⟩
  obtain ⟨n, d, ek, er, hq, sz, bnd, nl⟩ := h.2 i k v e
  refine ⟨n, d, ek, er, ?_, sz, bnd, nl⟩
  obtain ⟨_, ds, rfl, hr, _⟩ := goodR_row (gd _ (List.mem_of_getElem? er))
  obtain ⟨p, rfl, np⟩ := nw k v (List.mem_of_getElem? e)
  cases hq with
  | lst ea ha =>
  have hr' : (decide (1 ≤ ds.length) && (decide (ds.length ≤ 100) && ds.all (pairD ds.length))) = true := hr
  rw [Bool.and_eq_true, Bool.and_eq_true, List.all_eq_true] at hr'
  exact .lst (up _ _ ea (.inl np)) (DqAll.pair_up (fun a xs ex => up a _ ex (.inr ⟨xs, rfl⟩)) ha hr'.2.2)
section
variable {P : Program} {w : World} {K : PySem.W.Frag} {mg : Str → Option Value} {base : Heap} {tL t1 t2 : Tok}
theorem ok_Table_init {f : Addr} {fd : FuncData} {dvs : List V} (F : FunD K "__init__" "Table.__init__" (defArgs s_Table_init) (defBody s_Table_init) (defScope s_Table_init) dvs [] f fd) (T : Bt mg tL t1 t2) {TC BT fB : Addr} {fdB : FuncData} (C : TbC K mg TC) (E_BadTable : Er1 P w K mg base "BadTable" "name" BT fB fdB ["self", "name"] (fun _ => True))
    {fc : Addr} {fdc : FuncData} (D_check_rows : Df K mg "check_rows" s_check_rows ["rows"] fc fdc) (G_check_rows : FnOk P w K mg base (L2.CX P w) 5 fc fdc ["rows"] (spCheck BT))
    {fl : Addr} {fdl : FuncData} (D_is_below : Df K mg "is_below" s_is_below ["value", "bound"] fl fdl) (G_is_below : FnOk P w K mg base CX0 1 fl fdl ["value", "bound"] spBelow) : FnOk P w K mg base (L2.CX P w) 6 f fd ["self", "rows", "first"] (spTI TC BT) := by
  refine F.ok (CX := L2.CX P w) sc_Table_init (fun vs H Q E h => ?_) (fun cdv A outer s H vs Q E hr h => ?_)
  · obtain ⟨o, dx, d, vf, df, kvs, rs, rfl, _⟩ := h
    rfl
  · obtain ⟨o, dx, d, vf, df, kvs, rs, rfl, ho, hd, hrs, nd, kl, hf, qG, qB⟩ := h
    have hu := hu_of hr
    refine ⟨_, (pss_cons (ps_expr (pe_call G_check_rows (hr.mono (by decide)) rfl D_check_rows.g D_check_rows.F.kp D_check_rows.b .nil (passes_call (E := E) (takes_of rfl rfl rfl rfl) (fun _ _ _ _ h => h)) (pa_cons (pv 1) pa_nil)))
      (pss_cons (ps_fld (pv 0) (pe_callB (id := "len") (r := Evl.rLenS K) call_len_seq (by rfl) T.b_len PySem.boot_len (pa_cons (pe_ix (r := rIxL K) ix_list (pe_callTy (T := "list") (r := rListV) (call_listV rfl) (by rfl) T.b_list (by decide +kernel) (pa_cons (pe_values (pv 1)) pa_nil)) pe_int (fun _ _ => rfl)) pa_nil)) rfl)
      (pss_cons (ps_if (pt_not (pt_val (pe_call G_is_below (hr.mono (by decide)) rfl D_is_below.g D_is_below.F.kp D_is_below.b .nil pass0 (pa_cons (pv 2) (pa_cons (pe_fld (pv 0) rfl) pa_nil))))) (pss_one (ps_raise rfl (takes_of rfl rfl rfl rfl) (pmk_oex E_BadTable.ox E_BadTable.ic E_BadTable.ti E_BadTable.G (hr.mono (by decide)) E_BadTable.b .nil passL rfl E_BadTable.k (pa_cons pe_str pa_nil)))) pss_nil)
      (pss_cons (ps_fld (pv 0) (pv 2) rfl)
      (pss_one (ps_fld (pv 0) (pe_lock (pe_dc (own := [("name", 3)]) (g := (gName 3)) (tt := tYes) rfl sc_Table_init.nd (pi_keys (pv 1)) (blkOk_by (N := ["self", "rows", "first", "name"]) (sc := defScope s_Table_init) (by decide +kernel)) (fun _ _ _ _ _ => (pg_name (i := 3) sc_Table_init.nd rfl (Or.inl rfl))) (fun _ _ _ _ _ => pts_nil) (fun _ _ _ _ _ => (pv 3)) (fun _ _ _ _ _ => (pe_callTy (T := "list") (r := rLstOf K) call_list_of (by rfl) T.b_list (by decide +kernel) (pa_cons (pe_dget hu (pv 1) (pv 3) (fun _ _ => rfl)) pa_nil))))) rfl)))))), ?_⟩
    try simp only [tSeq, tIfS, tTest, tOp, tUn, tCB, tCons, tNil, tVar, tC, rI0, rI, rU, rEq, rNe, tRet, tRetN, tAsg, gName, gSub, tBM, tBM0, tNext, tB, tNot, tAnd, tOr, tIf, tCall, tDrop, tBreak, tCont, L2.start, tDGet, sDPut, tTup, tLst, tDNewK, tRevL, rCat, rAppend, rPop, rSetL, tAndV, tOrV, tNotV, tSl, tPart, tNoPart, tM1, gTup, gCons, gNil, cxK, cxnK, List.map_cons, List.map_nil, List.length_cons, List.length_nil, List.replicate, List.cons_append, List.nil_append, List.append_nil, List.set_cons_zero, List.set_cons_succ, List.getElem?_cons_zero, List.getElem?_cons_succ, Option.some.injEq, V.ref.injEq, V.int.injEq, V.str.injEq, V.bl.injEq, V.ty.injEq, exists_eq_left', exists_eq_left, exists_and_left, List.cons.injEq, and_true, true_and, sc_ii, sc_ss, sc_bb, sc_ni, sc_in, sc_is, sc_si, sc_nn, decide_true, decide_false, reduceCtorEq, Bool.false_eq_true, if_true, if_false, ite_true, ite_false, exists_const, eq_self, false_and, and_false, or_false, false_or, exists_false, Evl.rLenS, rSum, wipe, tYes, exists_eq, exists_eq', rIxL, rIxT, rIxS, exists_and_right, gt_iff_lt, not_true_eq_false, not_false_eq_true, Bool.not_true, Bool.not_false, decide_eq_true_eq, Nat.reduceSub, Nat.reduceAdd, List.append_assoc, tChain, tDIn, tDNotIn, sDDel, tAug, ipI]
    refine ⟨d, kvs, rs, rfl, hd, hrs, nd, kl, fun rb H1 k1 => ?_, fun nm rb e H' ne he k => qB nm (.inl rb) e H' ne he k.of0⟩
    have hd1 := k1 _ _ not0 hd
    have ho1 := k1 _ _ not0 ho
    have hrs1 := hrs.kp k1
    have hlen := hrs.1
    obtain ⟨⟨n0, d0⟩, rr, hr0⟩ : ∃ p r, rs = p :: r := by
      cases rs with
      | nil => cases rb
      | cons p r => exact ⟨p, r, rfl⟩
    have zl : kvs.length = rr.length + 1 := by rw [hlen, hr0]; rfl
    obtain ⟨⟨k0, v0⟩, kr, hk0⟩ : ∃ q r, kvs = q :: r := by
      cases kvs with
      | nil => simp at zl
      | cons q r => exact ⟨q, r, rfl⟩
    try simp only [tSeq, tIfS, tTest, tOp, tUn, tCB, tCons, tNil, tVar, tC, rI0, rI, rU, rEq, rNe, tRet, tRetN, tAsg, gName, gSub, tBM, tBM0, tNext, tB, tNot, tAnd, tOr, tIf, tCall, tDrop, tBreak, tCont, L2.start, tDGet, sDPut, tTup, tLst, tDNewK, tRevL, rCat, rAppend, rPop, rSetL, tAndV, tOrV, tNotV, tSl, tPart, tNoPart, tM1, gTup, gCons, gNil, cxK, cxnK, List.map_cons, List.map_nil, List.length_cons, List.length_nil, List.replicate, List.cons_append, List.nil_append, List.append_nil, List.set_cons_zero, List.set_cons_succ, List.getElem?_cons_zero, List.getElem?_cons_succ, Option.some.injEq, V.ref.injEq, V.int.injEq, V.str.injEq, V.bl.injEq, V.ty.injEq, exists_eq_left', exists_eq_left, exists_and_left, List.cons.injEq, and_true, true_and, sc_ii, sc_ss, sc_bb, sc_ni, sc_in, sc_is, sc_si, sc_nn, decide_true, decide_false, reduceCtorEq, Bool.false_eq_true, if_true, if_false, ite_true, ite_false, exists_const, eq_self, false_and, and_false, or_false, false_or, exists_false, Evl.rLenS, rSum, wipe, tYes, exists_eq, exists_eq', rIxL, rIxT, rIxS, exists_and_right, gt_iff_lt, not_true_eq_false, not_false_eq_true, Bool.not_true, Bool.not_false, decide_eq_true_eq, Nat.reduceSub, Nat.reduceAdd, List.append_assoc, tChain, tDIn, tDNotIn, sDDel, tAug, ipI, sFld, tFld]
    refine ⟨.ref d, rfl, d, kvs, rfl, hd1, fun q nq => ?_⟩
    have hdq : (upd H1 q (viewO q d)) d = some (.dK kvs) := by rw [upd_ne (ne_of_none hd1 nq)]; exact hd1
    refine ⟨q, d, kvs, rfl, upd_same, hdq, fun l nl => ⟨l, rfl, _, sq_l upd_same, v0, atI_of (by decide) (by rw [hk0]; rfl), ?_⟩⟩
    have k2 : Kp [] H1 (upd (upd H1 q (viewO q d)) l (.lst (kvs.map fun kv => kv.2))) := (Kp.new nq).trans (Kp.new nl)
    generalize upd (upd H1 q (viewO q d)) l (.lst (kvs.map fun kv => kv.2)) = H2 at k2 ⊢
    obtain ⟨n0', d0', _, er0, hq0, _, _, _⟩ := hrs1.2 0 k0 v0 (by rw [hk0]; rfl)
    rw [hr0] at er0
    cases er0
    try simp only [tSeq, tIfS, tTest, tOp, tUn, tCB, tCons, tNil, tVar, tC, rI0, rI, rU, rEq, rNe, tRet, tRetN, tAsg, gName, gSub, tBM, tBM0, tNext, tB, tNot, tAnd, tOr, tIf, tCall, tDrop, tBreak, tCont, L2.start, tDGet, sDPut, tTup, tLst, tDNewK, tRevL, rCat, rAppend, rPop, rSetL, tAndV, tOrV, tNotV, tSl, tPart, tNoPart, tM1, gTup, gCons, gNil, cxK, cxnK, List.map_cons, List.map_nil, List.length_cons, List.length_nil, List.replicate, List.cons_append, List.nil_append, List.append_nil, List.set_cons_zero, List.set_cons_succ, List.getElem?_cons_zero, List.getElem?_cons_succ, Option.some.injEq, V.ref.injEq, V.int.injEq, V.str.injEq, V.bl.injEq, V.ty.injEq, exists_eq_left', exists_eq_left, exists_and_left, List.cons.injEq, and_true, true_and, sc_ii, sc_ss, sc_bb, sc_ni, sc_in, sc_is, sc_si, sc_nn, decide_true, decide_false, reduceCtorEq, Bool.false_eq_true, if_true, if_false, ite_true, ite_false, exists_const, eq_self, false_and, and_false, or_false, false_or, exists_false, Evl.rLenS, rSum, wipe, tYes, exists_eq, exists_eq', rIxL, rIxT, rIxS, exists_and_right, gt_iff_lt, not_true_eq_false, not_false_eq_true, Bool.not_true, Bool.not_false, decide_eq_true_eq, Nat.reduceSub, Nat.reduceAdd, List.append_assoc, tChain, tDIn, tDNotIn, sDDel, tAug, ipI, sFld, tFld]
    have rg := rowsBad_none rb
    have rg0 := goodR_row (rg.2.2 (n0, d0) (by rw [hr0]; simp))
    obtain ⟨_, ds0, rfl, _, _⟩ := rg0
    have zm : lenD (rs.headD ("", .none)).2 = ds0.length := by rw [hr0]; rfl
    rw [zm] at qG qB
    cases hq0 with
    | @lst a0 xs0 _ e0 ha0 =>
    have hx0 : xs0.length = ds0.length := ha0.len
    have ho2 := k2 _ _ not0 ho1
    have hd2 := k2 _ _ not0 hd1
    refine ⟨a0, rfl, xs0, .inl (sq_l (k2 _ _ not0 e0)), TC, dx, [], ho2, C.cl, C.n1, by decide, TC, dx, _, upd_same, C.cl, C.n1, _, rfl, ?_⟩
    rw [hx0]
    have hrs2 := hrs1.kp k2
    have hf2 := (hf.kp k1).kp k2
    have kw1 : Kp [o] H2 (upd H2 o (.ins TC dx (putF "size" (.int (ds0.length : Nat)) []))) := (Kp.refl [o] _).put (by simp)
    have hf3 := hf2.kpN kw1 (ins_no ho2)
    refine ⟨vf, df, (ds0.length : Nat), rfl, hf3, ?_⟩
    cases hb : belowD (ds0.length : Nat) df with
    | false =>
      try simp only [tSeq, tIfS, tTest, tOp, tUn, tCB, tCons, tNil, tVar, tC, rI0, rI, rU, rEq, rNe, tRet, tRetN, tAsg, gName, gSub, tBM, tBM0, tNext, tB, tNot, tAnd, tOr, tIf, tCall, tDrop, tBreak, tCont, L2.start, tDGet, sDPut, tTup, tLst, tDNewK, tRevL, rCat, rAppend, rPop, rSetL, tAndV, tOrV, tNotV, tSl, tPart, tNoPart, tM1, gTup, gCons, gNil, cxK, cxnK, List.map_cons, List.map_nil, List.length_cons, List.length_nil, List.replicate, List.cons_append, List.nil_append, List.append_nil, List.set_cons_zero, List.set_cons_succ, List.getElem?_cons_zero, List.getElem?_cons_succ, Option.some.injEq, V.ref.injEq, V.int.injEq, V.str.injEq, V.bl.injEq, V.ty.injEq, exists_eq_left', exists_eq_left, exists_and_left, List.cons.injEq, and_true, true_and, sc_ii, sc_ss, sc_bb, sc_ni, sc_in, sc_is, sc_si, sc_nn, decide_true, decide_false, reduceCtorEq, Bool.false_eq_true, if_true, if_false, ite_true, ite_false, exists_const, eq_self, false_and, and_false, or_false, false_or, exists_false, Evl.rLenS, rSum, wipe, tYes, exists_eq, exists_eq', rIxL, rIxT, rIxS, exists_and_right, gt_iff_lt, not_true_eq_false, not_false_eq_true, Bool.not_true, Bool.not_false, decide_eq_true_eq, Nat.reduceSub, Nat.reduceAdd, List.append_assoc, tChain, tDIn, tDNotIn, sDDel, tAug, ipI]
      refine err1_made (P := fun _ => True) True.intro fun e H' ne he k => qB "" (.inr ⟨rb, hb, rfl⟩) e H' ?_ he ?_
      · have eo : e ≠ o := fun z => by rw [z, upd_same] at ne; cases ne
        rw [upd_ne eo] at ne
        exact (k1.trans k2).free0 ne
      · exact ((k1.trans k2).of0.trans kw1).trans k.of0
    | true =>
      try simp only [tSeq, tIfS, tTest, tOp, tUn, tCB, tCons, tNil, tVar, tC, rI0, rI, rU, rEq, rNe, tRet, tRetN, tAsg, gName, gSub, tBM, tBM0, tNext, tB, tNot, tAnd, tOr, tIf, tCall, tDrop, tBreak, tCont, L2.start, tDGet, sDPut, tTup, tLst, tDNewK, tRevL, rCat, rAppend, rPop, rSetL, tAndV, tOrV, tNotV, tSl, tPart, tNoPart, tM1, gTup, gCons, gNil, cxK, cxnK, List.map_cons, List.map_nil, List.length_cons, List.length_nil, List.replicate, List.cons_append, List.nil_append, List.append_nil, List.set_cons_zero, List.set_cons_succ, List.getElem?_cons_zero, List.getElem?_cons_succ, Option.some.injEq, V.ref.injEq, V.int.injEq, V.str.injEq, V.bl.injEq, V.ty.injEq, exists_eq_left', exists_eq_left, exists_and_left, List.cons.injEq, and_true, true_and, sc_ii, sc_ss, sc_bb, sc_ni, sc_in, sc_is, sc_si, sc_nn, decide_true, decide_false, reduceCtorEq, Bool.false_eq_true, if_true, if_false, ite_true, ite_false, exists_const, eq_self, false_and, and_false, or_false, false_or, exists_false, Evl.rLenS, rSum, wipe, tYes, exists_eq, exists_eq', rIxL, rIxT, rIxS, exists_and_right, gt_iff_lt, not_true_eq_false, not_false_eq_true, Bool.not_true, Bool.not_false, decide_eq_true_eq, Nat.reduceSub, Nat.reduceAdd, List.append_assoc, tChain, tDIn, tDNotIn, sDDel, tAug, ipI]
      obtain ⟨i, rfl, i0, i1⟩ := belowD_int hb
      cases hf3 with
      | int _ =>
      refine ⟨TC, dx, _, upd_same, C.cl, C.n2, (show (1 : Nat) < 1000 by decide), ?_⟩
      have kw3 : Kp [o] H2 (upd (upd H2 o (.ins TC dx (putF "size" (.int (ds0.length : Nat)) []))) o (.ins TC dx (putF "first" (.int i) (putF "size" (.int (ds0.length : Nat)) [])))) := kw1.put (by simp)
      have ho3 : (upd (upd H2 o (.ins TC dx (putF "size" (.int (ds0.length : Nat)) []))) o (.ins TC dx (putF "first" (.int i) (putF "size" (.int (ds0.length : Nat)) [])))) o = some (.ins TC dx [("size", .int (ds0.length : Nat)), ("first", .int i)]) := upd_same
      generalize (upd (upd H2 o (.ins TC dx (putF "size" (.int (ds0.length : Nat)) []))) o (.ins TC dx (putF "first" (.int i) (putF "size" (.int (ds0.length : Nat)) [])))) = H3 at kw3 ho3 ⊢
      have od_ne : o ≠ d := fun z => by rw [z, hd2] at ho2; cases ho2
      have hd3 : H3 d = some (.dK kvs) := kw3 _ _ (not1 (Ne.symm od_ne)) hd2
      have hrs3 := hrs2.kpN kw3 (ins_no ho2)
      refine ⟨d, .dK kvs, hd3, True.intro, fun od => ?_⟩
      have kl0 : Kp [d] H3 (upd H3 d (.frz od (.dK kvs))) := (Kp.refl [d] _).put List.mem_cons_self
      have dno : ∀ a ∈ [d], ∀ xs, H3 a ≠ some (.tup xs) ∧ H3 a ≠ some (.lst xs) := fun a ha xs => by
        rw [List.mem_singleton.mp ha, hd3]
        exact ⟨fun z => (by cases z), fun z => (by cases z)⟩
      have hrs4 := hrs3.kpN kl0 dno
      refine ⟨.ref d, rfl, d, od, rfl, .inl ⟨kvs, upd_same, fun D nD => dc_it walk_keys (CopyIn d od kvs rs D (upd H3 d (.frz od (.dK kvs)))) ?_ (fun i H' _ h => h.1) ?_ ?_⟩⟩
      · have dD : d ≠ D := ne_of_none upd_same nD
        exact ⟨by rw [upd_ne dD, upd_same], Kp.new nD, [], upd_same, ⟨rfl, fun i k v e => by cases e⟩, rfl, fun k v h => nomatch h⟩
      · rintro j x H5 H6 hj ⟨hf5, k5, kvs', hD5, hr5, hk5, hnw⟩ ⟨rfl, k, v, ek, rfl⟩
        obtain ⟨n, dd, rfl, er, hq, szd, bnd, nl3⟩ := hrs4.2 j k v ek
        try simp only [tSeq, tIfS, tTest, tOp, tUn, tCB, tCons, tNil, tVar, tC, rI0, rI, rU, rEq, rNe, tRet, tRetN, tAsg, gName, gSub, tBM, tBM0, tNext, tB, tNot, tAnd, tOr, tIf, tCall, tDrop, tBreak, tCont, L2.start, tDGet, sDPut, tTup, tLst, tDNewK, tRevL, rCat, rAppend, rPop, rSetL, tAndV, tOrV, tNotV, tSl, tPart, tNoPart, tM1, gTup, gCons, gNil, cxK, cxnK, List.map_cons, List.map_nil, List.length_cons, List.length_nil, List.replicate, List.cons_append, List.nil_append, List.append_nil, List.set_cons_zero, List.set_cons_succ, List.getElem?_cons_zero, List.getElem?_cons_succ, Option.some.injEq, V.ref.injEq, V.int.injEq, V.str.injEq, V.bl.injEq, V.ty.injEq, exists_eq_left', exists_eq_left, exists_and_left, List.cons.injEq, and_true, true_and, sc_ii, sc_ss, sc_bb, sc_ni, sc_in, sc_is, sc_si, sc_nn, decide_true, decide_false, reduceCtorEq, Bool.false_eq_true, if_true, if_false, ite_true, ite_false, exists_const, eq_self, false_and, and_false, or_false, false_or, exists_false, Evl.rLenS, rSum, wipe, tYes, exists_eq, exists_eq', rIxL, rIxT, rIxS, exists_and_right, gt_iff_lt, not_true_eq_false, not_false_eq_true, Bool.not_true, Bool.not_false, decide_eq_true_eq, Nat.reduceSub, Nat.reduceAdd, List.append_assoc, tChain, tDIn, tDNotIn, sDDel, tAug, ipI]
        obtain ⟨_, ds, rfl, _, _⟩ := goodR_row (rg.2.2 (n, dd) (List.mem_of_getElem? er))
        cases hq with
        | @lst a xs _ e ha =>
        refine ⟨.ref a, .inl ⟨kvs, Sum.inr n, .inr ⟨od, hf5⟩, rfl, (valV_mem nd (List.mem_of_getElem? ek)).symm⟩, ?_⟩
        refine ⟨a, xs, rfl, .inl (sq_l (k5 _ _ not0 e)), fun p np => ?_⟩
        have hkj : (kvs.map (·.1))[j]? = some (Sum.inr n) := by rw [List.getElem?_map, ek]; rfl
        have fr : (Sum.inr n : Key) ∉ kvs'.map (·.1) := by rw [hk5]; exact nd_fresh nd hkj
        have kp6 : Kp [] H6 (upd H6 p (.lst xs)) := Kp.new np
        have hD6 := kp6 _ _ not0 hD5
        have dD : d ≠ D := fun z => by rw [z, hD5] at hf5; cases hf5
        have l5 : kvs'.length ≤ 1000 := by
          have := congrArg List.length hk5
          rw [List.length_map, List.length_take, List.length_map] at this
          omega
        refine ⟨kvs', Sum.inr n, rfl, hD6, smallL (by omega), ?_⟩
        rw [putK_new _ (valV_fresh fr)]
        have kw7 : Kp [D] (upd H6 p (.lst xs)) (upd (upd H6 p (.lst xs)) D (.dK (kvs' ++ [(Sum.inr n, .ref p)]))) := (Kp.refl [D] _).put List.mem_cons_self
        have Dno : ∀ a ∈ [D], ∀ xs', (upd H6 p (.lst xs)) a ≠ some (.tup xs') ∧ (upd H6 p (.lst xs)) a ≠ some (.lst xs') := fun a ha xs' => by
          rw [List.mem_singleton.mp ha, hD6]
          exact ⟨fun z => (by cases z), fun z => (by cases z)⟩
        refine ⟨kw7 _ _ (not1 dD) (kp6 _ _ not0 hf5), (k5.trans kp6).wr nD, _, upd_same, ?_, ?_, fun k2 v2 h2 => ?_⟩
        · rw [take_snoc er]
          have hnew : Dq (upd H6 p (.lst xs)) (.ref p) (.list ds) := .lst upd_same (DqAll.kpN (k5.trans kp6) (fun a m => absurd m (by simp)) ha)
          exact RowsD.app ((hr5.kp kp6).kpN kw7 Dno) (hnew.kpN kw7 Dno) szd bnd nl3
        · rw [List.map_append, take_snoc hkj, hk5]; rfl
        · rcases List.mem_append.mp h2 with h2 | h2
          · exact hnw k2 v2 h2
          · cases List.mem_singleton.mp h2
            exact ⟨p, rfl, k5.free0 np⟩
      · rintro H5 ⟨hf5, k5, kvs', hD5, hr5, hk5, hnw⟩
        have dD : d ≠ D := fun z => by rw [z, hD5] at hf5; cases hf5
        have oD : o ≠ D := fun z => by rw [← z, upd_ne od_ne, ho3] at nD; cases nD
        have ho5 := k5 o _ not0 (by rw [upd_ne od_ne]; exact ho3)
        have ho6 : (upd H5 d (.dK kvs)) o = some (.ins TC dx [("size", .int (ds0.length : Nat)), ("first", .int i)]) := by rw [upd_ne od_ne]; exact ho5
        refine ⟨hf5, TC, dx, [("size", .int (ds0.length : Nat)), ("first", .int i)], ho6, C.cl, C.n3, (show (2 : Nat) < 1000 by decide), ?_⟩
        have k35 := unl (kl0.trans k5.of0) hd3
        have k56 : Kp [d] H5 (upd H5 d (.dK kvs)) := (Kp.refl [d] _).put List.mem_cons_self
        have dno5 : ∀ a ∈ [d], ∀ xs', H5 a ≠ some (.tup xs') ∧ H5 a ≠ some (.lst xs') := fun a ha xs' => by
          rw [List.mem_singleton.mp ha, hf5]
          exact ⟨fun z => (by cases z), fun z => (by cases z)⟩
        have kw6 : Kp [o] (upd H5 d (.dK kvs)) (upd (upd H5 d (.dK kvs)) o (.ins TC dx (putF "_rows" (.ref D) [("size", .int (ds0.length : Nat)), ("first", .int i)]))) := (Kp.refl [o] _).put List.mem_cons_self
        have hl : kvs.length = rs.length := hlen
        rw [hl, List.take_length] at hr5
        have hDf : (upd (upd H5 d (.dK kvs)) o (.ins TC dx (putF "_rows" (.ref D) [("size", .int (ds0.length : Nat)), ("first", .int i)]))) D = some (.dK kvs') := by
          rw [upd_ne (Ne.symm oD), upd_ne (Ne.symm dD)]; exact hD5
        have ndf : (kvs'.map (·.1)).Nodup := by
          rw [hk5, List.take_of_length_le (by rw [List.length_map]; omega)]; exact nd
        have hrf := (hr5.kpN k56 dno5).kpN kw6 (ins_no ho6)
        have freeH : ∀ p, (upd H3 d (.frz od (.dK kvs))) p = none → H p = none := fun p np => by
          cases e : H p with
          | none => rfl
          | some u =>
            have e2 := (k1.trans k2) _ _ not0 e
            have po : p ≠ o := fun w => by rw [w, upd_ne od_ne, ho3] at np; cases np
            have e3 := kw3 _ _ (not1 po) e2
            have pd : p ≠ d := fun w => by rw [w, upd_same] at np; cases np
            rw [upd_ne pd, e3] at np; cases np
        exact qG rb i rfl i0 i1 _ ⟨dx, D, kvs', upd_same, hDf, hrf, ndf, rb, zm.symm, i0, i1⟩ (fun H'' up => ⟨dx, D, kvs', up o _ upd_same (.inl rfl), up D _ hDf (.inr (.inl (freeH D nD))), hrf.own (H := H) rg.2.2 (fun k v h => by obtain ⟨p, e, np⟩ := hnw k v h; exact ⟨p, e, freeH p np⟩) (fun a u e h => up a u e (.inr h)), ndf, rb, zm.symm, i0, i1⟩) ((((k1.trans k2).of0.trans kw3).trans k35.of0).trans kw6)
end
end My

set_option Elab.async false
set_option linter.all false
set_option maxRecDepth 100000
set_option maxHeartbeats 4000000
namespace My
open PySem L2 NdefX
/-! ### what a table tells -/
def pairI : PyData → Int × Int
  | .tuple [.int a, .int s] => (a, s)
  | _ => (0, 0)
def rowL : PyData → List (Int × Int)
  | .list ds => ds.map pairI
  | _ => []
def rowOf (rs : List (Str × PyData)) (z : Str) : List (Int × Int) := match rs.find? (fun p => decide (p.1 = z)) with
  | some p => rowL p.2
  | none => []
def cellOf (rs : List (Str × PyData)) (z : Str) (s : Int) : Int × Int := (rowOf rs z).getD s.toNat (0, 0)
def walkR (rs : List (Str × PyData)) : Int → List Str → List Int
  | _, [] => []
  | s, z :: zs => (cellOf rs z s).1 :: walkR rs (cellOf rs z s).2 zs
def stateR (rs : List (Str × PyData)) : Int → List Str → Int
  | s, [] => s
  | s, z :: zs => stateR rs (cellOf rs z s).2 zs
def hasD (rs : List (Str × PyData)) : PyData → Bool
  | .str z => nameS z && decide (z ∈ rs.map (·.1))
  | _ => false
theorem pairD_is {m : Int} {d : PyData} (h : pairD m d = true) : ∃ a s : Int, d = .tuple [.int a, .int s] ∧ 0 ≤ a ∧ a < 10 ∧ 0 ≤ s ∧ s < m := by
  match d, h with
  | .tuple [a, s], h =>
    have h' : (belowD 10 a && belowD m s) = true := h
    rw [Bool.and_eq_true] at h'
    obtain ⟨i, rfl, i0, i1⟩ := belowD_int h'.1
    obtain ⟨j, rfl, j0, j1⟩ := belowD_int h'.2
    exact ⟨i, j, rfl, i0, i1, j0, j1⟩
theorem find_key {rs : List (Str × PyData)} {z : Str} {d : PyData} {j : Nat} (nd : (rs.map (·.1)).Nodup) (e : rs[j]? = some (z, d)) : rs.find? (fun p => decide (p.1 = z)) = some (z, d) := by
  refine find_first e (by simp) fun i y hi ey => ?_
  refine decide_eq_false fun h => ?_
  have e1 : (rs.map (·.1))[j]? = some z := by rw [List.getElem?_map, e]; rfl
  have e2 : (rs.map (·.1))[i]? = some z := by rw [List.getElem?_map, ey, ← h]; rfl
  obtain ⟨a, ea⟩ := List.getElem?_eq_some_iff.mp e1
  obtain ⟨b, eb⟩ := List.getElem?_eq_some_iff.mp e2
  have := (List.getElem_inj nd).mp (ea.trans eb.symm)
  omega
theorem RowsD.keys {H : Hp} {kvs : List (Key × V)} {rs : List (Str × PyData)} (h : RowsD H kvs rs) : kvs.map (·.1) = (rs.map (·.1)).map (fun z => (Sum.inr z : Key)) := by
  refine List.ext_getElem? fun i => ?_
  rw [List.getElem?_map, List.getElem?_map, List.getElem?_map]
  cases e : kvs[i]? with
  | none =>
    have : rs[i]? = none := by
      rw [List.getElem?_eq_none_iff] at e ⊢
      have := h.1
      omega
    rw [this]; rfl
  | some p =>
    obtain ⟨k, v⟩ := p
    obtain ⟨n, d, rfl, er, _⟩ := h.2 i k v e
    rw [er]; rfl
theorem nd_names {kvs : List (Key × V)} {rs : List (Str × PyData)} (e : kvs.map (·.1) = (rs.map (·.1)).map (fun z => (Sum.inr z : Key))) (nd : (kvs.map (·.1)).Nodup) : (rs.map (·.1)).Nodup := by
  rw [e] at nd
  exact List.Pairwise.of_map _ (fun a b h e => h (by rw [e])) nd
theorem TabAt.get {TC : Addr} {H : Hp} {o : Addr} {m : Nat} {first : Int} {rs : List (Str × PyData)} (h : TabAt TC H o m first rs) {z : Str} (hz : z ∈ rs.map (·.1)) : ∃ (dx d : Addr) (kvs : List (Key × V)) (a : Addr) (xs : List V), H o = some (.ins TC dx [("size", .int (m : Nat)), ("first", .int first), ("_rows", .ref d)]) ∧ H d = some (.dK kvs) ∧ valV kvs (Sum.inr z) = some (.ref a) ∧ H a = some (.lst xs) ∧ xs.length = m ∧
    ∀ s : Int, 0 ≤ s → s < m → ∃ p, xs[s.toNat]? = some (.ref p) ∧ H p = some (.tup [.int (cellOf rs z s).1, .int (cellOf rs z s).2]) ∧ 0 ≤ (cellOf rs z s).1 ∧ (cellOf rs z s).1 < 10 ∧ 0 ≤ (cellOf rs z s).2 ∧ (cellOf rs z s).2 < m := by
  obtain ⟨dx, d, kvs, ho, hd, hr, nd, rb, em, f0, f1⟩ := h
  obtain ⟨⟨z', dd⟩, hm, rfl⟩ := List.mem_map.mp hz
  obtain ⟨j, ej⟩ := List.getElem?_of_mem hm
  obtain ⟨⟨k, v⟩, ek⟩ : ∃ p, kvs[j]? = some p := by
    have hj := (List.getElem?_eq_some_iff.mp ej).1
    exact ⟨kvs[j]'(by rw [hr.1]; exact hj), List.getElem?_eq_getElem _⟩
  obtain ⟨n, d', rfl, er, hq, _⟩ := hr.2 j k v ek
  rw [ej] at er
  cases er
  obtain ⟨hn, ds, rfl, hrow, hl⟩ := goodR_row ((rowsBad_none rb).2.2 _ hm)
  cases hq with
  | @lst a xs _ e ha =>
  refine ⟨dx, d, kvs, a, xs, ho, hd, valV_mem nd (List.mem_of_getElem? ek), e, by rw [ha.len, hl, em], fun s s0 s1 => ?_⟩
  have sl : s.toNat < xs.length := by rw [ha.len, hl, ← em]; omega
  obtain ⟨dp, edp, hdp⟩ := ha.get (List.getElem?_eq_getElem sl)
  have hall : ds.all (pairD ds.length) = true := by
    have h' : (decide (1 ≤ ds.length) && (decide (ds.length ≤ 100) && ds.all (pairD ds.length))) = true := hrow
    rw [Bool.and_eq_true, Bool.and_eq_true] at h'
    exact h'.2.2
  obtain ⟨x, y, rfl, x0, x1, y0, y1⟩ := pairD_is (List.all_eq_true.mp hall _ (List.mem_of_getElem? edp))
  have ec : cellOf rs z' s = (x, y) := by
    unfold cellOf rowOf
    rw [find_key (nd_names hr.keys nd) ej]
    show (ds.map pairI).getD s.toNat (0, 0) = (x, y)
    rw [List.getD_eq_getElem?_getD, List.getElem?_map, edp]; rfl
  rw [ec]
  have e5 : xs[s.toNat]? = some xs[s.toNat] := List.getElem?_eq_getElem sl
  rw [e5]
  generalize xs[s.toNat] = w0 at hdp
  have hl2 : ds.length = m := by rw [hl, em]
  rw [hl2] at y1
  cases hdp with
  | tup e2 h2 =>
  cases h2 with
  | cons a1 t =>
  cases t with
  | cons a2 t =>
  cases t
  cases a1
  cases a2
  exact ⟨_, rfl, e2, x0, x1, y0, y1⟩
theorem TabAt.head {TC : Addr} {H : Hp} {o : Addr} {m : Nat} {first : Int} {rs : List (Str × PyData)} (h : TabAt TC H o m first rs) : ∃ dx d : Addr, H o = some (.ins TC dx [("size", .int (m : Nat)), ("first", .int first), ("_rows", .ref d)]) := by
  obtain ⟨dx, d, _, ho, _⟩ := h
  exact ⟨dx, d, ho⟩
theorem TabAt.has {TC : Addr} {H : Hp} {o : Addr} {m : Nat} {first : Int} {rs : List (Str × PyData)} (h : TabAt TC H o m first rs) : ∃ (dx d : Addr) (kvs : List (Key × V)), H o = some (.ins TC dx [("size", .int (m : Nat)), ("first", .int first), ("_rows", .ref d)]) ∧ H d = some (.dK kvs) ∧ (kvs.map fun kv => kV kv.1) = (rs.map (·.1)).map V.str ∧ ∀ z : Str, (valV kvs (Sum.inr z)).isSome = decide (z ∈ rs.map (·.1)) := by
  obtain ⟨dx, d, kvs, ho, hd, hr, nd, rb, em, f0, f1⟩ := h
  refine ⟨dx, d, kvs, ho, hd, ?_, fun z => ?_⟩
  · have e := congrArg (List.map kV) hr.keys
    rw [List.map_map, List.map_map] at e
    exact e
  · by_cases hz : z ∈ rs.map (·.1)
    · rw [decide_eq_true hz]
      have hk : (Sum.inr z : Key) ∈ kvs.map (·.1) := by rw [hr.keys]; exact List.mem_map_of_mem hz
      obtain ⟨⟨k, v⟩, hm, ek⟩ := List.mem_map.mp hk
      have ek' : k = Sum.inr z := ek
      subst ek'
      rw [valV_mem nd hm]; rfl
    · rw [decide_eq_false hz]
      have hk : (Sum.inr z : Key) ∉ kvs.map (·.1) := by
        rw [hr.keys]
        intro h
        obtain ⟨z', hz', e⟩ := List.mem_map.mp h
        cases e
        exact hz hz'
      rw [valV_fresh hk]; rfl
section
variable {P : Program} {w : World} {K : PySem.W.Frag} {mg : Str → Option Value} {base : Heap} {tL t1 t2 : Tok}
def spTN (TC : Addr) : Sp := fun vs H Q E => ∃ (o : Addr) (m : Nat) (first : Int) (rs : List (Str × PyData)), vs = [.ref o] ∧ TabAt TC H o m first rs ∧ ∀ l H', H l = none → H' l = some (.lst ((rs.map (·.1)).map V.str)) → Kp [] H H' → Q (.ref l) H'
theorem ok_Table_names {f : Addr} {fd : FuncData} (F : Fun K "names" "Table.names" s_Table_names f fd) (T : Bt mg tL t1 t2) {TC : Addr} (C : TbC K mg TC) : FnOk P w K mg base CX0 1 f fd ["self"] (spTN TC) := by
  refine F.ok sc_Table_names (fun vs H Q E h => ?_) (fun cdv A outer s H vs Q E hr h => ?_)
  · obtain ⟨o, m, first, rs, rfl, _⟩ := h
    rfl
  · obtain ⟨o, m, first, rs, rfl, hT, q⟩ := h
    obtain ⟨dx, d, kvs, ho, hd, ek, _⟩ := hT.has
    refine ⟨_, (pss_one (ps_ret (pe_callTy (call_listD rfl) (by rfl) T.b_list (by decide +kernel) (pa_cons (pe_fld (pv 0) rfl) pa_nil)))), ?_⟩
    try simp only [tSeq, tIfS, tTest, tOp, tUn, tCB, tCons, tNil, tVar, tC, rI0, rI, rU, rEq, rNe, tRet, tRetN, tAsg, gName, gSub, tBM, tBM0, tNext, tB, tNot, tAnd, tOr, tIf, tCall, tDrop, tBreak, tCont, L2.start, tDGet, sDPut, tTup, tLst, tDNewK, tRevL, rCat, rAppend, rPop, rSetL, tAndV, tOrV, tNotV, tSl, tPart, tNoPart, tM1, gTup, gCons, gNil, cxK, cxnK, List.map_cons, List.map_nil, List.length_cons, List.length_nil, List.replicate, List.cons_append, List.nil_append, List.append_nil, List.set_cons_zero, List.set_cons_succ, List.getElem?_cons_zero, List.getElem?_cons_succ, Option.some.injEq, V.ref.injEq, V.int.injEq, V.str.injEq, V.bl.injEq, V.ty.injEq, exists_eq_left', exists_eq_left, exists_and_left, List.cons.injEq, and_true, true_and, sc_ii, sc_ss, sc_bb, sc_ni, sc_in, sc_is, sc_si, sc_nn, decide_true, decide_false, reduceCtorEq, Bool.false_eq_true, if_true, if_false, ite_true, ite_false, exists_const, eq_self, false_and, and_false, or_false, false_or, exists_false, Evl.rLenS, rSum, wipe, tYes, exists_eq, exists_eq', rIxL, rIxT, rIxS, exists_and_right, gt_iff_lt, not_true_eq_false, not_false_eq_true, Bool.not_true, Bool.not_false, decide_eq_true_eq, Nat.reduceSub, Nat.reduceAdd, List.append_assoc, tChain, tDIn, tDNotIn, sDDel, tAug, ipI, tFld]
    refine ⟨TC, dx, _, ho, C.cl, C.n3, .ref d, rfl, d, rfl, kvs, .inl hd, fun p np => ?_⟩
    rw [ek]
    exact q p _ np upd_same (Kp.new np)
def spTK (TC NO : Addr) : Sp := fun vs H Q E => ∃ (o : Addr) (v : V) (dn : PyData) (m : Nat) (first : Int) (rs : List (Str × PyData)), vs = [.ref o, v] ∧ TabAt TC H o m first rs ∧ Dq H v dn ∧ szD dn = true ∧ (hasD rs dn = true → ∀ H', Kp [] H H' → Q .non H') ∧
  (hasD rs dn = false → ∀ (e : Addr) (H' : Hp), H e = none → H' e = some (.xd [("name", v)]) → Kp [] H H' → E (.ref NO) (some e) H')
theorem ok_Table_check_name {f : Addr} {fd : FuncData} (F : Fun K "check_name" "Table.check_name" s_Table_check_name f fd) (T : Bt mg tL t1 t2) {TC NO fN : Addr} {fdN : FuncData} (C : TbC K mg TC) (E_NoOperation : Er1 P w K mg base "NoOperation" "name" NO fN fdN ["self", "name"] (fun _ => True))
    {fa : Addr} {fda : FuncData} (D_is_name : Df K mg "is_name" s_is_name ["value"] fa fda) (G_is_name : FnOk P w K mg base CX0 1 fa fda ["value"] (spD (fun _ => True) nameD)) : FnOk P w K mg base (L2.CX P w) 3 f fd ["self", "name"] (spTK TC NO) := by
  refine F.okX sc_Table_check_name (fun vs H Q E h => ?_) (fun cdv A outer s H vs Q E hr h => ?_)
  · obtain ⟨o, v, dn, m, first, rs, rfl, _⟩ := h
    rfl
  · obtain ⟨o, v, dn, m, first, rs, rfl, hT, hv, sz, qG, qB⟩ := h
    have hu := hu_of hr
    refine ⟨_, (pss_one (ps_if (PW.pt (pw_or (pt_not (pt_val (pe_call G_is_name (hr.mono (by decide)) rfl D_is_name.g D_is_name.F.kp D_is_name.b .nil pass0 (pa_cons (pv 1) pa_nil)))) (pw_or1 (pt_cmp (pc_dnotin hu (pv 1) (pe_fld (pv 0) rfl)))))) (pss_one (ps_raise rfl (takes_of rfl rfl rfl rfl) (pmk_oex E_NoOperation.ox E_NoOperation.ic E_NoOperation.ti E_NoOperation.G (hr.mono (by decide)) E_NoOperation.b .nil passL rfl E_NoOperation.k (pa_cons (pv 1) pa_nil)))) pss_nil)), ?_⟩
    try simp only [tSeq, tIfS, tTest, tOp, tUn, tCB, tCons, tNil, tVar, tC, rI0, rI, rU, rEq, rNe, tRet, tRetN, tAsg, gName, gSub, tBM, tBM0, tNext, tB, tNot, tAnd, tOr, tIf, tCall, tDrop, tBreak, tCont, L2.start, tDGet, sDPut, tTup, tLst, tDNewK, tRevL, rCat, rAppend, rPop, rSetL, tAndV, tOrV, tNotV, tSl, tPart, tNoPart, tM1, gTup, gCons, gNil, cxK, cxnK, List.map_cons, List.map_nil, List.length_cons, List.length_nil, List.replicate, List.cons_append, List.nil_append, List.append_nil, List.set_cons_zero, List.set_cons_succ, List.getElem?_cons_zero, List.getElem?_cons_succ, Option.some.injEq, V.ref.injEq, V.int.injEq, V.str.injEq, V.bl.injEq, V.ty.injEq, exists_eq_left', exists_eq_left, exists_and_left, List.cons.injEq, and_true, true_and, sc_ii, sc_ss, sc_bb, sc_ni, sc_in, sc_is, sc_si, sc_nn, decide_true, decide_false, reduceCtorEq, Bool.false_eq_true, if_true, if_false, ite_true, ite_false, exists_const, eq_self, false_and, and_false, or_false, false_or, exists_false, Evl.rLenS, rSum, wipe, tYes, exists_eq, exists_eq', rIxL, rIxT, rIxS, exists_and_right, gt_iff_lt, not_true_eq_false, not_false_eq_true, Bool.not_true, Bool.not_false, decide_eq_true_eq, Nat.reduceSub, Nat.reduceAdd, List.append_assoc, tChain, tDIn, tDNotIn, sDDel, tAug, ipI, tFld]
    refine ⟨v, dn, rfl, hv, sz, True.intro, fun H1 k1 => ?_⟩
    obtain ⟨dx, d, kvs, ho, hd, _, ek⟩ := (hT.kp k1).has
    have err : ∀ (H2 : Hp), Kp [] H H2 → hasD rs dn = false → tMkO NO (spErr1 NO "name" fun _ => True) [] (tCons (tVar 1) tNil) [some (.ref o), some v] H2 (fun cls d H' => E cls d H') := fun H2 k2 hb =>
      ⟨v, rfl, err1_made (P := fun _ => True) True.intro fun e H' ne he k => qB hb e H' (k2.free0 ne) he (k2.trans k)⟩
    cases hn : nameD dn with
    | false =>
      try simp only [tSeq, tIfS, tTest, tOp, tUn, tCB, tCons, tNil, tVar, tC, rI0, rI, rU, rEq, rNe, tRet, tRetN, tAsg, gName, gSub, tBM, tBM0, tNext, tB, tNot, tAnd, tOr, tIf, tCall, tDrop, tBreak, tCont, L2.start, tDGet, sDPut, tTup, tLst, tDNewK, tRevL, rCat, rAppend, rPop, rSetL, tAndV, tOrV, tNotV, tSl, tPart, tNoPart, tM1, gTup, gCons, gNil, cxK, cxnK, List.map_cons, List.map_nil, List.length_cons, List.length_nil, List.replicate, List.cons_append, List.nil_append, List.append_nil, List.set_cons_zero, List.set_cons_succ, List.getElem?_cons_zero, List.getElem?_cons_succ, Option.some.injEq, V.ref.injEq, V.int.injEq, V.str.injEq, V.bl.injEq, V.ty.injEq, exists_eq_left', exists_eq_left, exists_and_left, List.cons.injEq, and_true, true_and, sc_ii, sc_ss, sc_bb, sc_ni, sc_in, sc_is, sc_si, sc_nn, decide_true, decide_false, reduceCtorEq, Bool.false_eq_true, if_true, if_false, ite_true, ite_false, exists_const, eq_self, false_and, and_false, or_false, false_or, exists_false, Evl.rLenS, rSum, wipe, tYes, exists_eq, exists_eq', rIxL, rIxT, rIxS, exists_and_right, gt_iff_lt, not_true_eq_false, not_false_eq_true, Bool.not_true, Bool.not_false, decide_eq_true_eq, Nat.reduceSub, Nat.reduceAdd, List.append_assoc, tChain, tDIn, tDNotIn, sDDel, tAug, ipI]
      refine err H1 k1 ?_
      cases dn with
      | str z =>
        have hn' : nameS z = false := hn
        show (nameS z && _) = false
        rw [hn']; rfl
      | _ => rfl
    | true =>
      obtain ⟨z, rfl⟩ : ∃ z, dn = .str z := by
        cases dn <;> first | exact ⟨_, rfl⟩ | cases hn
      cases hv with
      | str _ =>
      have eh : hasD rs (.str z) = decide (z ∈ rs.map (·.1)) := by
        have hn' : nameS z = true := hn
        show (nameS z && _) = _
        rw [hn']; rfl
      try simp only [tSeq, tIfS, tTest, tOp, tUn, tCB, tCons, tNil, tVar, tC, rI0, rI, rU, rEq, rNe, tRet, tRetN, tAsg, gName, gSub, tBM, tBM0, tNext, tB, tNot, tAnd, tOr, tIf, tCall, tDrop, tBreak, tCont, L2.start, tDGet, sDPut, tTup, tLst, tDNewK, tRevL, rCat, rAppend, rPop, rSetL, tAndV, tOrV, tNotV, tSl, tPart, tNoPart, tM1, gTup, gCons, gNil, cxK, cxnK, List.map_cons, List.map_nil, List.length_cons, List.length_nil, List.replicate, List.cons_append, List.nil_append, List.append_nil, List.set_cons_zero, List.set_cons_succ, List.getElem?_cons_zero, List.getElem?_cons_succ, Option.some.injEq, V.ref.injEq, V.int.injEq, V.str.injEq, V.bl.injEq, V.ty.injEq, exists_eq_left', exists_eq_left, exists_and_left, List.cons.injEq, and_true, true_and, sc_ii, sc_ss, sc_bb, sc_ni, sc_in, sc_is, sc_si, sc_nn, decide_true, decide_false, reduceCtorEq, Bool.false_eq_true, if_true, if_false, ite_true, ite_false, exists_const, eq_self, false_and, and_false, or_false, false_or, exists_false, Evl.rLenS, rSum, wipe, tYes, exists_eq, exists_eq', rIxL, rIxT, rIxS, exists_and_right, gt_iff_lt, not_true_eq_false, not_false_eq_true, Bool.not_true, Bool.not_false, decide_eq_true_eq, Nat.reduceSub, Nat.reduceAdd, List.append_assoc, tChain, tDIn, tDNotIn, sDDel, tAug, ipI]
      refine ⟨TC, dx, _, ho, C.cl, C.n3, .ref d, rfl, d, rfl, _, .inl ⟨kvs, Sum.inr z, .inl hd, rfl, rfl⟩, ?_⟩
      rw [ek z]
      by_cases hz : z ∈ rs.map (·.1)
      · rw [decide_eq_true hz]
        exact qG (eh.trans (decide_eq_true hz)) H1 k1
      · rw [decide_eq_false hz]
        exact err H1 k1 (eh.trans (decide_eq_false hz))
def spTCall (TC NO BN : Addr) : Sp := fun vs H Q E => ∃ (o : Addr) (v u : V) (dn ds : PyData) (m : Nat) (first : Int) (rs : List (Str × PyData)), vs = [.ref o, v, u] ∧ TabAt TC H o m first rs ∧ Dq H v dn ∧ szD dn = true ∧ Dq H u ds ∧
  (∀ (z : Str) (s : Int), dn = .str z → ds = .int s → hasD rs dn = true → 0 ≤ s → s < m → ∀ (p : Addr) (H' : Hp), H' p = some (.tup [.int (cellOf rs z s).1, .int (cellOf rs z s).2]) → Kp [] H H' → Q (.ref p) H') ∧
  (hasD rs dn = false → ∀ (e : Addr) (H' : Hp), H e = none → H' e = some (.xd [("name", v)]) → Kp [] H H' → E (.ref NO) (some e) H') ∧
  (hasD rs dn = true → belowD m ds = false → ∀ (e : Addr) (H' : Hp), H e = none → H' e = some (.xd [("number", u)]) → Kp [] H H' → E (.ref BN) (some e) H')
theorem ok_Table_call {f : Addr} {fd : FuncData} (F : Fun K "__call__" "Table.__call__" s_Table_call f fd) (T : Bt mg tL t1 t2) {TC NO BN fB fN : Addr} {fdB fdN : FuncData} (C : TbC K mg TC) (E_BadNumber : Er1 P w K mg base "BadNumber" "number" BN fB fdB ["self", "number"] (fun _ => True))
    (ME_Table_check_name : Meth K TC "check_name" fN) (bM_Table_check_name : Binds K fdN ["self", "name"] []) (G_Table_check_name : FnOk P w K mg base (L2.CX P w) 3 fN fdN ["self", "name"] (spTK TC NO))
    {fl : Addr} {fdl : FuncData} (D_is_below : Df K mg "is_below" s_is_below ["value", "bound"] fl fdl) (G_is_below : FnOk P w K mg base CX0 1 fl fdl ["value", "bound"] spBelow) : FnOk P w K mg base (L2.CX P w) 4 f fd ["self", "name", "state"] (spTCall TC NO BN) := by
  refine F.okX sc_Table_call (fun vs H Q E h => ?_) (fun cdv A outer s H vs Q E hr h => ?_)
  · obtain ⟨o, v, u, dn, ds, m, first, rs, rfl, _⟩ := h
    rfl
  · obtain ⟨o, v, u, dn, ds, m, first, rs, rfl, hT, hv, sz, hs, qG, qN, qS⟩ := h
    have hu := hu_of hr
    refine ⟨_, (pss_cons (ps_expr (pe_meth (pv 0) C.cl ME_Table_check_name G_Table_check_name (hr.mono (by decide)) bM_Table_check_name .nil (passes_call (E := E) (takes_of rfl rfl rfl rfl) (fun _ _ _ _ h => h)) (pa_cons (pv 1) pa_nil)))
      (pss_cons (ps_if (pt_not (pt_val (pe_call G_is_below (hr.mono (by decide)) rfl D_is_below.g D_is_below.F.kp D_is_below.b .nil pass0 (pa_cons (pv 2) (pa_cons (pe_fld (pv 0) rfl) pa_nil))))) (pss_one (ps_raise rfl (takes_of rfl rfl rfl rfl) (pmk_oex E_BadNumber.ox E_BadNumber.ic E_BadNumber.ti E_BadNumber.G (hr.mono (by decide)) E_BadNumber.b .nil passL rfl E_BadNumber.k (pa_cons (pv 2) pa_nil)))) pss_nil)
      (pss_one (ps_ret (pe_ix (r := rIxL K) ix_list (pe_dget hu (pe_fld (pv 0) rfl) (pv 1) (fun _ _ => rfl)) (pv 2) (fun _ _ => rfl)))))), ?_⟩
    try simp only [tSeq, tIfS, tTest, tOp, tUn, tCB, tCons, tNil, tVar, tC, rI0, rI, rU, rEq, rNe, tRet, tRetN, tAsg, gName, gSub, tBM, tBM0, tNext, tB, tNot, tAnd, tOr, tIf, tCall, tDrop, tBreak, tCont, L2.start, tDGet, sDPut, tTup, tLst, tDNewK, tRevL, rCat, rAppend, rPop, rSetL, tAndV, tOrV, tNotV, tSl, tPart, tNoPart, tM1, gTup, gCons, gNil, cxK, cxnK, List.map_cons, List.map_nil, List.length_cons, List.length_nil, List.replicate, List.cons_append, List.nil_append, List.append_nil, List.set_cons_zero, List.set_cons_succ, List.getElem?_cons_zero, List.getElem?_cons_succ, Option.some.injEq, V.ref.injEq, V.int.injEq, V.str.injEq, V.bl.injEq, V.ty.injEq, exists_eq_left', exists_eq_left, exists_and_left, List.cons.injEq, and_true, true_and, sc_ii, sc_ss, sc_bb, sc_ni, sc_in, sc_is, sc_si, sc_nn, decide_true, decide_false, reduceCtorEq, Bool.false_eq_true, if_true, if_false, ite_true, ite_false, exists_const, eq_self, false_and, and_false, or_false, false_or, exists_false, Evl.rLenS, rSum, wipe, tYes, exists_eq, exists_eq', rIxL, rIxT, rIxS, exists_and_right, gt_iff_lt, not_true_eq_false, not_false_eq_true, Bool.not_true, Bool.not_false, decide_eq_true_eq, Nat.reduceSub, Nat.reduceAdd, List.append_assoc, tChain, tDIn, tDNotIn, sDDel, tAug, ipI, tFld, tMeth]
    obtain ⟨dx0, d0, ho0⟩ := hT.head
    refine ⟨dx0, _, ho0, rfl, o, v, dn, m, first, rs, rfl, hT, hv, sz, fun hh H1 k1 => ?_, fun hh e H' ne he k => qN hh e H' ne he k⟩
    have hT1 := hT.kp k1
    obtain ⟨z, rfl⟩ : ∃ z, dn = .str z := by
      cases dn <;> first | exact ⟨_, rfl⟩ | cases hh
    have hz : z ∈ rs.map (·.1) := by
      have h' : (nameS z && decide (z ∈ rs.map (·.1))) = true := hh
      rw [Bool.and_eq_true, decide_eq_true_eq] at h'
      exact h'.2
    obtain ⟨dx, d, kvs, a, xs, ho, hd, ev, ha, hl, cell⟩ := hT1.get hz
    cases hv with
    | str _ =>
    refine ⟨TC, dx, _, ho, C.cl, C.n1, _, rfl, u, ds, (m : Nat), rfl, hs.kp k1, ?_⟩
    cases hb : belowD (m : Nat) ds with
    | false =>
      try simp only [tSeq, tIfS, tTest, tOp, tUn, tCB, tCons, tNil, tVar, tC, rI0, rI, rU, rEq, rNe, tRet, tRetN, tAsg, gName, gSub, tBM, tBM0, tNext, tB, tNot, tAnd, tOr, tIf, tCall, tDrop, tBreak, tCont, L2.start, tDGet, sDPut, tTup, tLst, tDNewK, tRevL, rCat, rAppend, rPop, rSetL, tAndV, tOrV, tNotV, tSl, tPart, tNoPart, tM1, gTup, gCons, gNil, cxK, cxnK, List.map_cons, List.map_nil, List.length_cons, List.length_nil, List.replicate, List.cons_append, List.nil_append, List.append_nil, List.set_cons_zero, List.set_cons_succ, List.getElem?_cons_zero, List.getElem?_cons_succ, Option.some.injEq, V.ref.injEq, V.int.injEq, V.str.injEq, V.bl.injEq, V.ty.injEq, exists_eq_left', exists_eq_left, exists_and_left, List.cons.injEq, and_true, true_and, sc_ii, sc_ss, sc_bb, sc_ni, sc_in, sc_is, sc_si, sc_nn, decide_true, decide_false, reduceCtorEq, Bool.false_eq_true, if_true, if_false, ite_true, ite_false, exists_const, eq_self, false_and, and_false, or_false, false_or, exists_false, Evl.rLenS, rSum, wipe, tYes, exists_eq, exists_eq', rIxL, rIxT, rIxS, exists_and_right, gt_iff_lt, not_true_eq_false, not_false_eq_true, Bool.not_true, Bool.not_false, decide_eq_true_eq, Nat.reduceSub, Nat.reduceAdd, List.append_assoc, tChain, tDIn, tDNotIn, sDDel, tAug, ipI]
      exact ⟨u, rfl, err1_made (P := fun _ => True) True.intro fun e H' ne he k => qS hh hb e H' (k1.free0 ne) he (k1.trans k)⟩
    | true =>
      obtain ⟨i, rfl, i0, i1⟩ := belowD_int hb
      cases hs with
      | int _ =>
      obtain ⟨p, ep, hp, _⟩ := cell i i0 i1
      try simp only [tSeq, tIfS, tTest, tOp, tUn, tCB, tCons, tNil, tVar, tC, rI0, rI, rU, rEq, rNe, tRet, tRetN, tAsg, gName, gSub, tBM, tBM0, tNext, tB, tNot, tAnd, tOr, tIf, tCall, tDrop, tBreak, tCont, L2.start, tDGet, sDPut, tTup, tLst, tDNewK, tRevL, rCat, rAppend, rPop, rSetL, tAndV, tOrV, tNotV, tSl, tPart, tNoPart, tM1, gTup, gCons, gNil, cxK, cxnK, List.map_cons, List.map_nil, List.length_cons, List.length_nil, List.replicate, List.cons_append, List.nil_append, List.append_nil, List.set_cons_zero, List.set_cons_succ, List.getElem?_cons_zero, List.getElem?_cons_succ, Option.some.injEq, V.ref.injEq, V.int.injEq, V.str.injEq, V.bl.injEq, V.ty.injEq, exists_eq_left', exists_eq_left, exists_and_left, List.cons.injEq, and_true, true_and, sc_ii, sc_ss, sc_bb, sc_ni, sc_in, sc_is, sc_si, sc_nn, decide_true, decide_false, reduceCtorEq, Bool.false_eq_true, if_true, if_false, ite_true, ite_false, exists_const, eq_self, false_and, and_false, or_false, false_or, exists_false, Evl.rLenS, rSum, wipe, tYes, exists_eq, exists_eq', rIxL, rIxT, rIxS, exists_and_right, gt_iff_lt, not_true_eq_false, not_false_eq_true, Bool.not_true, Bool.not_false, decide_eq_true_eq, Nat.reduceSub, Nat.reduceAdd, List.append_assoc, tChain, tDIn, tDNotIn, sDDel, tAug, ipI]
      exact ⟨TC, dx, _, ho, C.cl, C.n3, .ref d, rfl, d, rfl, .ref a, .inl ⟨kvs, Sum.inr z, .inl hd, rfl, ev.symm⟩, a, rfl, xs, sq_l ha, .ref p, atI_of i0 ep, qG z i rfl rfl hh i0 i1 p _ hp k1⟩
def spTA (TC NO : Addr) : Sp := fun vs H Q E => ∃ (o l : Addr) (zs : List Str) (m : Nat) (first : Int) (rs : List (Str × PyData)), vs = [.ref o, .ref l] ∧ TabAt TC H o m first rs ∧ H l = some (.lst (zs.map V.str)) ∧ zs.length ≤ 1000 ∧ (∀ z ∈ zs, z.length ≤ 1000) ∧
  ((∀ z ∈ zs, z ∈ rs.map (·.1)) → ∀ (r : Addr) (H' : Hp), H r = none → H' r = some (.lst ((walkR rs first zs).map V.int)) → Kp [] H H' → Q (.ref r) H') ∧
  (∀ (i : Nat) (z : Str), zs[i]? = some z → hasD rs (.str z) = false → (∀ j y, j < i → zs[j]? = some y → hasD rs (.str y) = true) → ∀ (e : Addr) (H' : Hp), H e = none → H' e = some (.xd [("name", .str z)]) → Kp [] H H' → E (.ref NO) (some e) H')
def ChkIn (o l : Addr) (zs : List Str) (rs : List (Str × PyData)) (H : Hp) (i : Nat) (σ : L2.St) (H' : Hp) : Prop := ∃ c, σ = [some (.ref o), some (.ref l), c, none, none, none] ∧ Kp [] H H' ∧ ∀ j y, j < i → zs[j]? = some y → hasD rs (.str y) = true
def AnsIn (o l r : Addr) (zs : List Str) (first : Int) (rs : List (Str × PyData)) (H : Hp) (i : Nat) (σ : L2.St) (H' : Hp) : Prop := ∃ c x, σ = [some (.ref o), some (.ref l), c, some (.int (stateR rs first (zs.take i))), some (.ref r), x] ∧ H' r = some (.lst ((walkR rs first (zs.take i)).map V.int)) ∧ Kp [] H H' ∧ 0 ≤ stateR rs first (zs.take i) ∧ stateR rs first (zs.take i) < lenD (rs.headD ("", .none)).2
theorem walkR_snoc (rs : List (Str × PyData)) : ∀ (s : Int) (zs : List Str) (z : Str), walkR rs s (zs ++ [z]) = walkR rs s zs ++ [(cellOf rs z (stateR rs s zs)).1] ∧ stateR rs s (zs ++ [z]) = (cellOf rs z (stateR rs s zs)).2
  | s, [], z => ⟨rfl, rfl⟩
  | s, y :: ys, z => by
    obtain ⟨a, b⟩ := walkR_snoc rs (cellOf rs y s).2 ys z
    constructor
    · show (cellOf rs y s).1 :: walkR rs (cellOf rs y s).2 (ys ++ [z]) = _
      rw [a]; rfl
    · exact b
theorem walkR_len (rs : List (Str × PyData)) : ∀ (s : Int) (zs : List Str), (walkR rs s zs).length = zs.length
  | _, [] => rfl
  | s, z :: zs => by
    show (walkR rs _ zs).length + 1 = zs.length + 1
    rw [walkR_len]
theorem ok_Table_answers {f : Addr} {fd : FuncData} (F : Fun K "answers" "Table.answers" s_Table_answers f fd) (T : Bt mg tL t1 t2) {TC NO fN : Addr} {fdN : FuncData} (C : TbC K mg TC)
    (ME_Table_check_name : Meth K TC "check_name" fN) (bM_Table_check_name : Binds K fdN ["self", "name"] []) (G_Table_check_name : FnOk P w K mg base (L2.CX P w) 3 fN fdN ["self", "name"] (spTK TC NO)) : FnOk P w K mg base (L2.CX P w) 4 f fd ["self", "calls"] (spTA TC NO) := by
  refine F.okX sc_Table_answers (fun vs H Q E h => ?_) (fun cdv A outer s H vs Q E hr h => ?_)
  · obtain ⟨o, l, zs, m, first, rs, rfl, _⟩ := h
    rfl
  · obtain ⟨o, l, zs, m, first, rs, rfl, hT, hl, zl, zb, qG, qN⟩ := h
    have hu := hu_of hr
    refine ⟨_, (pss_cons (ps_for (passes_of rfl) rfl (pi_list (pv 1)) (pg_name (i := 2) sc_Table_answers.nd rfl (Or.inl rfl)) (pss_one (ps_expr (pe_meth (pv 0) C.cl ME_Table_check_name G_Table_check_name (hr.mono (by decide)) bM_Table_check_name .nil (passes_call (E := E) (takes_of rfl rfl rfl rfl) (fun _ _ _ _ h => h)) (pa_cons (pv 2) pa_nil)))))
      (pss_cons (ps_set (i := 3) sc_Table_answers.nd rfl (Or.inl rfl) (pe_fld (pv 0) rfl))
      (pss_cons (ps_set (i := 4) sc_Table_answers.nd rfl (Or.inl rfl) (pe_lst pa_nil))
      (pss_cons (ps_for (passes_of rfl) rfl (pi_list (pv 1)) (pg_name (i := 2) sc_Table_answers.nd rfl (Or.inl rfl)) (pss_cons (ps_asg (pe_ix (r := rIxL K) ix_list (pe_dget hu (pe_fld (pv 0) rfl) (pv 2) (fun _ _ => rfl)) (pv 3) (fun _ _ => rfl)) (pg_tup (n := 2) (by rfl) (pgs_cons (pg_name (i := 5) sc_Table_answers.nd rfl (Or.inl rfl)) (pgs_cons (pg_name (i := 3) sc_Table_answers.nd rfl (Or.inl rfl)) pgs_nil))))
      (pss_one (ps_expr (pe_bm PySem.F.plainAttrs_list PySem.F.slot_list_append PySem.F.type_list_append mt_append (pv 4) (pa_cons (pv 5) pa_nil))))))
      (pss_one (ps_ret (pv 4))))))), ?_⟩
    try simp only [tSeq, tIfS, tTest, tOp, tUn, tCB, tCons, tNil, tVar, tC, rI0, rI, rU, rEq, rNe, tRet, tRetN, tAsg, gName, gSub, tBM, tBM0, tNext, tB, tNot, tAnd, tOr, tIf, tCall, tDrop, tBreak, tCont, L2.start, tDGet, sDPut, tTup, tLst, tDNewK, tRevL, rCat, rAppend, rPop, rSetL, tAndV, tOrV, tNotV, tSl, tPart, tNoPart, tM1, gTup, gCons, gNil, cxK, cxnK, List.map_cons, List.map_nil, List.length_cons, List.length_nil, List.replicate, List.cons_append, List.nil_append, List.append_nil, List.set_cons_zero, List.set_cons_succ, List.getElem?_cons_zero, List.getElem?_cons_succ, Option.some.injEq, V.ref.injEq, V.int.injEq, V.str.injEq, V.bl.injEq, V.ty.injEq, exists_eq_left', exists_eq_left, exists_and_left, List.cons.injEq, and_true, true_and, sc_ii, sc_ss, sc_bb, sc_ni, sc_in, sc_is, sc_si, sc_nn, decide_true, decide_false, reduceCtorEq, Bool.false_eq_true, if_true, if_false, ite_true, ite_false, exists_const, eq_self, false_and, and_false, or_false, false_or, exists_false, Evl.rLenS, rSum, wipe, tYes, exists_eq, exists_eq', rIxL, rIxT, rIxS, exists_and_right, gt_iff_lt, not_true_eq_false, not_false_eq_true, Bool.not_true, Bool.not_false, decide_eq_true_eq, Nat.reduceSub, Nat.reduceAdd, List.append_assoc, tChain, tDIn, tDNotIn, sDDel, tAug, ipI, tFld, tMeth]
    have xl : ∀ {i : Nat} {x : V}, (zs.map V.str)[i]? = some x → ∃ z, zs[i]? = some z ∧ x = .str z := fun {i x} e => by
      rw [List.getElem?_map] at e
      cases ez : zs[i]? with
      | none => rw [ez] at e; cases e
      | some z => rw [ez] at e; cases e; exact ⟨z, rfl, rfl⟩
    refine ⟨.ref l, rfl, l, rfl, ⟨_, sq_l hl⟩, for_list (K := K) (a := l) (xs := zs.map V.str) (ChkIn o l zs rs H) ⟨_, rfl, Kp.refl _ _, fun j y hj => absurd hj (by omega)⟩ (fun i σ H' _ h => by obtain ⟨_, _, k, _⟩ := h; exact k.ls not0 (sq_l hl)) ?_ ?_⟩
    · rintro i x σ H1 hx ⟨c, rfl, k1, hg⟩
      obtain ⟨z, ez, rfl⟩ := xl hx
      try simp only [tSeq, tIfS, tTest, tOp, tUn, tCB, tCons, tNil, tVar, tC, rI0, rI, rU, rEq, rNe, tRet, tRetN, tAsg, gName, gSub, tBM, tBM0, tNext, tB, tNot, tAnd, tOr, tIf, tCall, tDrop, tBreak, tCont, L2.start, tDGet, sDPut, tTup, tLst, tDNewK, tRevL, rCat, rAppend, rPop, rSetL, tAndV, tOrV, tNotV, tSl, tPart, tNoPart, tM1, gTup, gCons, gNil, cxK, cxnK, List.map_cons, List.map_nil, List.length_cons, List.length_nil, List.replicate, List.cons_append, List.nil_append, List.append_nil, List.set_cons_zero, List.set_cons_succ, List.getElem?_cons_zero, List.getElem?_cons_succ, Option.some.injEq, V.ref.injEq, V.int.injEq, V.str.injEq, V.bl.injEq, V.ty.injEq, exists_eq_left', exists_eq_left, exists_and_left, List.cons.injEq, and_true, true_and, sc_ii, sc_ss, sc_bb, sc_ni, sc_in, sc_is, sc_si, sc_nn, decide_true, decide_false, reduceCtorEq, Bool.false_eq_true, if_true, if_false, ite_true, ite_false, exists_const, eq_self, false_and, and_false, or_false, false_or, exists_false, Evl.rLenS, rSum, wipe, tYes, exists_eq, exists_eq', rIxL, rIxT, rIxS, exists_and_right, gt_iff_lt, not_true_eq_false, not_false_eq_true, Bool.not_true, Bool.not_false, decide_eq_true_eq, Nat.reduceSub, Nat.reduceAdd, List.append_assoc, tChain, tDIn, tDNotIn, sDDel, tAug, ipI, tMeth]
      obtain ⟨dx0, d0, ho0⟩ := (hT.kp k1).head
      have szz : szD (.str z) = true := decide_eq_true (zb z (List.mem_of_getElem? ez))
      refine ⟨dx0, _, ho0, rfl, o, .str z, .str z, m, first, rs, rfl, hT.kp k1, .str z, szz, fun hh H2 k2 => ⟨_, rfl, k1.trans k2, fun j y hj ey => ?_⟩, fun hh e H' ne he k => qN i z ez hh hg e H' (k1.free0 ne) he (k1.trans k)⟩
      by_cases zj : j = i
      · subst zj; rw [ez] at ey; cases ey; exact hh
      · exact hg j y (by omega) ey
    · rintro σ H1 ⟨c, rfl, k1, hg⟩
      have hT1 := hT.kp k1
      have allN : ∀ z ∈ zs, z ∈ rs.map (·.1) := fun z hz => by
        obtain ⟨j, ej⟩ := List.getElem?_of_mem hz
        have hh := hg j z (by rw [List.length_map]; exact (List.getElem?_eq_some_iff.mp ej).1) ej
        have h' : (nameS z && decide (z ∈ rs.map (·.1))) = true := hh
        rw [Bool.and_eq_true, decide_eq_true_eq] at h'
        exact h'.2
      try simp only [tSeq, tIfS, tTest, tOp, tUn, tCB, tCons, tNil, tVar, tC, rI0, rI, rU, rEq, rNe, tRet, tRetN, tAsg, gName, gSub, tBM, tBM0, tNext, tB, tNot, tAnd, tOr, tIf, tCall, tDrop, tBreak, tCont, L2.start, tDGet, sDPut, tTup, tLst, tDNewK, tRevL, rCat, rAppend, rPop, rSetL, tAndV, tOrV, tNotV, tSl, tPart, tNoPart, tM1, gTup, gCons, gNil, cxK, cxnK, List.map_cons, List.map_nil, List.length_cons, List.length_nil, List.replicate, List.cons_append, List.nil_append, List.append_nil, List.set_cons_zero, List.set_cons_succ, List.getElem?_cons_zero, List.getElem?_cons_succ, Option.some.injEq, V.ref.injEq, V.int.injEq, V.str.injEq, V.bl.injEq, V.ty.injEq, exists_eq_left', exists_eq_left, exists_and_left, List.cons.injEq, and_true, true_and, sc_ii, sc_ss, sc_bb, sc_ni, sc_in, sc_is, sc_si, sc_nn, decide_true, decide_false, reduceCtorEq, Bool.false_eq_true, if_true, if_false, ite_true, ite_false, exists_const, eq_self, false_and, and_false, or_false, false_or, exists_false, Evl.rLenS, rSum, wipe, tYes, exists_eq, exists_eq', rIxL, rIxT, rIxS, exists_and_right, gt_iff_lt, not_true_eq_false, not_false_eq_true, Bool.not_true, Bool.not_false, decide_eq_true_eq, Nat.reduceSub, Nat.reduceAdd, List.append_assoc, tChain, tDIn, tDNotIn, sDDel, tAug, ipI, tFld]
      obtain ⟨dx0, d0, kvs0, ho0, hd0, hr0, nd0, rb0, em0, f00, f01⟩ := hT1
      refine ⟨TC, dx0, _, ho0, C.cl, C.n2, _, rfl, small (by decide), fun r nr => ?_⟩
      have nrH : H r = none := k1.free0 nr
      have k1r : Kp [] H (upd H1 r (.lst [])) := k1.trans (Kp.new nr)
      refine ⟨.ref l, rfl, l, rfl, ⟨_, sq_l (k1r _ _ not0 hl)⟩, for_list (K := K) (a := l) (xs := zs.map V.str) (AnsIn o l r zs first rs H) ⟨c, none, rfl, upd_same, k1r, f00, by rw [← em0]; exact f01⟩ (fun i σ H' _ h => by obtain ⟨_, _, _, _, k, _⟩ := h; exact k.ls not0 (sq_l hl)) ?_ ?_⟩
      · rintro i x σ H2 hx ⟨c, y, rfl, hr2, k2, s0, s1⟩
        obtain ⟨z, ez, rfl⟩ := xl hx
        try simp only [tSeq, tIfS, tTest, tOp, tUn, tCB, tCons, tNil, tVar, tC, rI0, rI, rU, rEq, rNe, tRet, tRetN, tAsg, gName, gSub, tBM, tBM0, tNext, tB, tNot, tAnd, tOr, tIf, tCall, tDrop, tBreak, tCont, L2.start, tDGet, sDPut, tTup, tLst, tDNewK, tRevL, rCat, rAppend, rPop, rSetL, tAndV, tOrV, tNotV, tSl, tPart, tNoPart, tM1, gTup, gCons, gNil, cxK, cxnK, List.map_cons, List.map_nil, List.length_cons, List.length_nil, List.replicate, List.cons_append, List.nil_append, List.append_nil, List.set_cons_zero, List.set_cons_succ, List.getElem?_cons_zero, List.getElem?_cons_succ, Option.some.injEq, V.ref.injEq, V.int.injEq, V.str.injEq, V.bl.injEq, V.ty.injEq, exists_eq_left', exists_eq_left, exists_and_left, List.cons.injEq, and_true, true_and, sc_ii, sc_ss, sc_bb, sc_ni, sc_in, sc_is, sc_si, sc_nn, decide_true, decide_false, reduceCtorEq, Bool.false_eq_true, if_true, if_false, ite_true, ite_false, exists_const, eq_self, false_and, and_false, or_false, false_or, exists_false, Evl.rLenS, rSum, wipe, tYes, exists_eq, exists_eq', rIxL, rIxT, rIxS, exists_and_right, gt_iff_lt, not_true_eq_false, not_false_eq_true, Bool.not_true, Bool.not_false, decide_eq_true_eq, Nat.reduceSub, Nat.reduceAdd, List.append_assoc, tChain, tDIn, tDNotIn, sDDel, tAug, ipI, tFld]
        obtain ⟨dx, d, kvs, a, xs, ho, hd, ev, ha, hl2, cell⟩ := (hT.kp k2).get (allN z (List.mem_of_getElem? ez))
        have s1' := s1
        rw [← em0] at s1'
        obtain ⟨p, ep, hp, c0, c1, d0, d1⟩ := cell _ s0 s1'
        refine ⟨TC, dx, _, ho, C.cl, C.n3, .ref d, rfl, d, rfl, .ref a, .inl ⟨kvs, Sum.inr z, .inl hd, rfl, ev.symm⟩, a, rfl, xs, sq_l ha, .ref p, atI_of s0 ep, ?_⟩
        have wl : ((walkR rs first (zs.take i)).map V.int).length ≤ 1000 := by
          rw [List.length_map, walkR_len, List.length_take]; omega
        have wz := walkR_snoc rs first (zs.take i) z
        refine ⟨p, rfl, _, sq_t hp, rfl, _, _, rfl, _, _, rfl, rfl, .inl ⟨rfl, _, sq_l hr2⟩, _, hr2, smallL (by omega), ?_⟩
        refine ⟨some (.str z), some (.int (cellOf rs z (stateR rs first (zs.take i))).1), ?_, ?_, k2.wr nrH, ?_⟩
        · rw [take_snoc ez, wz.2]
        · rw [take_snoc ez, wz.1, upd_same, List.map_append]; rfl
        · rw [take_snoc ez, wz.2, ← em0]
          exact ⟨d0, d1⟩
      · rintro σ H2 ⟨c, y, rfl, hr2, k2, s0, s1⟩
        rw [List.length_map, List.take_length] at hr2
        try simp only [tSeq, tIfS, tTest, tOp, tUn, tCB, tCons, tNil, tVar, tC, rI0, rI, rU, rEq, rNe, tRet, tRetN, tAsg, gName, gSub, tBM, tBM0, tNext, tB, tNot, tAnd, tOr, tIf, tCall, tDrop, tBreak, tCont, L2.start, tDGet, sDPut, tTup, tLst, tDNewK, tRevL, rCat, rAppend, rPop, rSetL, tAndV, tOrV, tNotV, tSl, tPart, tNoPart, tM1, gTup, gCons, gNil, cxK, cxnK, List.map_cons, List.map_nil, List.length_cons, List.length_nil, List.replicate, List.cons_append, List.nil_append, List.append_nil, List.set_cons_zero, List.set_cons_succ, List.getElem?_cons_zero, List.getElem?_cons_succ, Option.some.injEq, V.ref.injEq, V.int.injEq, V.str.injEq, V.bl.injEq, V.ty.injEq, exists_eq_left', exists_eq_left, exists_and_left, List.cons.injEq, and_true, true_and, sc_ii, sc_ss, sc_bb, sc_ni, sc_in, sc_is, sc_si, sc_nn, decide_true, decide_false, reduceCtorEq, Bool.false_eq_true, if_true, if_false, ite_true, ite_false, exists_const, eq_self, false_and, and_false, or_false, false_or, exists_false, Evl.rLenS, rSum, wipe, tYes, exists_eq, exists_eq', rIxL, rIxT, rIxS, exists_and_right, gt_iff_lt, not_true_eq_false, not_false_eq_true, Bool.not_true, Bool.not_false, decide_eq_true_eq, Nat.reduceSub, Nat.reduceAdd, List.append_assoc, tChain, tDIn, tDNotIn, sDDel, tAug, ipI]
        exact qG allN r H2 nrH hr2 k2
end
end My

set_option Elab.async false
set_option linter.all false
set_option maxRecDepth 100000
set_option maxHeartbeats 4000000
namespace My
open PySem L2 NdefX
theorem len_app (x y : Str) : (x ++ y).length = x.length + y.length := Array.size_append
abbrev s_SameName_init : Stmt := mtop 6 0
theorem sc_SameName_init : NScope ["self", "name", "__class__"] ["self", "name"] ["__class__"] (defScope s_SameName_init) := nscope_by (by decide +kernel)
theorem ok_SameName_init {P : Program} {w : World} {K : PySem.W.Frag} {mg : Str → Option Value} {base : Heap} {CX : CXT} {f cc cda C : Addr} {fd : FuncData} (F : FunX K "__init__" "SameName.__init__" s_SameName_init f fd cc cda C) (T : ErrC K C) (G : CodeF K P cda) (hsup : mg "super" = none) (n1 : PySem.W.findIn K (.ref C) "name" = some none) {Pf : V → Prop} :
    FnOk P w K mg base CX 1 f fd ["self", "name"] (spErr1 C "name" Pf) := by
  have F0 := F
  obtain ⟨oc, od, kV, doc, pm, an, ct, osl, hfd, lk, hcd⟩ := F0.ex
  obtain ⟨cl, cld, csl, hcc⟩ := F0.cell
  refine F.ok sc_SameName_init (fun vs H Q E h => ?_) (fun A outer s H vs Q E hr h => ?_)
  · obtain ⟨a, v, rfl, _⟩ := h
    rfl
  · obtain ⟨a, v, rfl, hp, ha, q⟩ := h
    refine ⟨_, psat_cons (psat_sup T G lk (by rw [hfd]; rfl) hcc hsup rfl rfl rfl rfl rfl rfl rfl (pa_cons pe_str pa_nil) rfl rfl rfl rfl rfl) (pss_one (ps_ost (pv 0) (pv 1))), ?_⟩
    try simp only [tSeq, tIfS, tTest, tOp, tUn, tCB, tCons, tNil, tVar, tC, rI0, rI, rU, rEq, rNe, tRet, tRetN, tAsg, gName, gSub, tBM, tBM0, tNext, tB, tNot, tAnd, tOr, tIf, tCall, tDrop, tBreak, tCont, L2.start, tDGet, sDPut, tTup, tLst, tDNewK, tRevL, rCat, rAppend, rPop, rSetL, tAndV, tOrV, tNotV, tSl, tPart, tNoPart, tM1, gTup, gCons, gNil, cxK, cxnK, List.map_cons, List.map_nil, List.length_cons, List.length_nil, List.replicate, List.cons_append, List.nil_append, List.append_nil, List.set_cons_zero, List.set_cons_succ, List.getElem?_cons_zero, List.getElem?_cons_succ, Option.some.injEq, V.ref.injEq, V.int.injEq, V.str.injEq, V.bl.injEq, V.ty.injEq, exists_eq_left', exists_eq_left, exists_and_left, List.cons.injEq, and_true, true_and, sc_ii, sc_ss, sc_bb, sc_ni, sc_in, sc_is, sc_si, sc_nn, decide_true, decide_false, reduceCtorEq, Bool.false_eq_true, if_true, if_false, ite_true, ite_false, exists_const, eq_self, false_and, and_false, or_false, false_or, exists_false, Evl.rLenS, rSum, wipe, tYes, exists_eq, exists_eq', rIxL, rIxT, rIxS, exists_and_right, gt_iff_lt, not_true_eq_false, not_false_eq_true, Bool.not_true, Bool.not_false, decide_eq_true_eq, Nat.reduceSub, Nat.reduceAdd, List.append_assoc, tChain, tDIn, tDNotIn, sDDel, tAug, ipI, startF, tSupI, tOst]
    exact ⟨ha, by decide, ha, C, T.ox, n1, .inl ⟨ha, q⟩⟩
abbrev s_TooLarge_init : Stmt := mtop 3 0
theorem sc_TooLarge_init : NScope ["self", "bound", "__class__"] ["self", "bound"] ["__class__"] (defScope s_TooLarge_init) := nscope_by (by decide +kernel)
theorem ok_TooLarge_init {P : Program} {w : World} {K : PySem.W.Frag} {mg : Str → Option Value} {base : Heap} {CX : CXT} {f cc cda C : Addr} {fd : FuncData} (F : FunX K "__init__" "TooLarge.__init__" s_TooLarge_init f fd cc cda C) (T : ErrC K C) (G : CodeF K P cda) (hsup : mg "super" = none) (n1 : PySem.W.findIn K (.ref C) "bound" = some none) {Pf : V → Prop} (hPf : ∀ v, Pf v → ∃ i : Int, v = .int i ∧ i.natAbs.log2 < 1920) :
    FnOk P w K mg base CX 1 f fd ["self", "bound"] (spErr1 C "bound" Pf) := by
  have F0 := F
  obtain ⟨oc, od, kV, doc, pm, an, ct, osl, hfd, lk, hcd⟩ := F0.ex
  obtain ⟨cl, cld, csl, hcc⟩ := F0.cell
  refine F.ok sc_TooLarge_init (fun vs H Q E h => ?_) (fun A outer s H vs Q E hr h => ?_)
  · obtain ⟨a, v, rfl, _⟩ := h
    rfl
  · obtain ⟨a, v, rfl, hp, ha, q⟩ := h
    obtain ⟨i, rfl, il⟩ := hPf v hp
    have tl := PyProof.Rows.int_text_len_1921 il
    refine ⟨_, psat_cons (psat_sup T G lk (by rw [hfd]; rfl) hcc hsup rfl rfl rfl rfl rfl rfl rfl (pa_cons (pe_joined (.cons pe_str (.cons (pe_fmt (pv 1)) .nil))) pa_nil) rfl rfl rfl rfl rfl) (pss_one (ps_ost (pv 0) (pv 1))), ?_⟩
    try simp only [tSeq, tIfS, tTest, tOp, tUn, tCB, tCons, tNil, tVar, tC, rI0, rI, rU, rEq, rNe, tRet, tRetN, tAsg, gName, gSub, tBM, tBM0, tNext, tB, tNot, tAnd, tOr, tIf, tCall, tDrop, tBreak, tCont, L2.start, tDGet, sDPut, tTup, tLst, tDNewK, tRevL, rCat, rAppend, rPop, rSetL, tAndV, tOrV, tNotV, tSl, tPart, tNoPart, tM1, gTup, gCons, gNil, cxK, cxnK, List.map_cons, List.map_nil, List.length_cons, List.length_nil, List.replicate, List.cons_append, List.nil_append, List.append_nil, List.set_cons_zero, List.set_cons_succ, List.getElem?_cons_zero, List.getElem?_cons_succ, Option.some.injEq, V.ref.injEq, V.int.injEq, V.str.injEq, V.bl.injEq, V.ty.injEq, exists_eq_left', exists_eq_left, exists_and_left, List.cons.injEq, and_true, true_and, sc_ii, sc_ss, sc_bb, sc_ni, sc_in, sc_is, sc_si, sc_nn, decide_true, decide_false, reduceCtorEq, Bool.false_eq_true, if_true, if_false, ite_true, ite_false, exists_const, eq_self, false_and, and_false, or_false, false_or, exists_false, Evl.rLenS, rSum, wipe, tYes, exists_eq, exists_eq', rIxL, rIxT, rIxS, exists_and_right, gt_iff_lt, not_true_eq_false, not_false_eq_true, Bool.not_true, Bool.not_false, decide_eq_true_eq, Nat.reduceSub, Nat.reduceAdd, List.append_assoc, tChain, tDIn, tDNotIn, sDDel, tAug, ipI, startF, tSupI, tJs, tFmt, tOst]
    have z0 : Str.empty.length = 0 := rfl
    have s0 : (Str.ofString "not within the bound of ").length = 24 := by decide +kernel
    refine ⟨ha, small ?_, il, small ?_, by decide, ha, C, T.ox, n1, .inl ⟨ha, q⟩⟩
    all_goals (simp only [len_app, z0, s0]; omega)
abbrev s_Table_add : Stmt := mtop 15 6
theorem sc_Table_add : FnScope ["self", "other", "name", "states", "a", "b", "rows", "row"] ["self", "other"] (defScope s_Table_add) := ⟨rfl, rfl, rfl, by decide +kernel, rfl, by decide +kernel, by decide +kernel⟩
structure BtT (mg : Str → Option Value) (t1 t2 : Tok) : Prop where
  b_len : mg "len" = none
  b_range : mg "range" = none
  c_MOST_STATES : mg "MOST_STATES" = some (.int 100 t1)
  c_MOST_OPERATIONS : mg "MOST_OPERATIONS" = some (.int 6 t2)
def SmallI (v : V) : Prop := ∃ i : Int, v = .int i ∧ 0 ≤ i ∧ i ≤ 1000
/-! ### two tables side by side -/
def cellD (p : Int × Int) : PyData := .tuple [.int p.1, .int p.2]
def rowD2 (k : Nat) (f : Nat → Int × Int) : PyData := .list ((List.range k).map fun i => cellD (f i))
def leftF (rs : List (Str × PyData)) (n : Nat) (z : Str) (i : Nat) : Int × Int := ((cellOf rs z (i / n : Nat)).1, (cellOf rs z (i / n : Nat)).2 * n + (i % n : Nat))
def rightF (qs : List (Str × PyData)) (n : Nat) (z : Str) (i : Nat) : Int × Int := ((cellOf qs z (i % n : Nat)).1, (i / n : Nat) * (n : Int) + (cellOf qs z (i % n : Nat)).2)
def leftR (rs : List (Str × PyData)) (m n : Nat) : List (Str × PyData) := rs.map fun p => (p.1, rowD2 (m * n) (leftF rs n p.1))
def rightR (qs : List (Str × PyData)) (m n : Nat) : List (Str × PyData) := qs.map fun p => (p.1, rowD2 (m * n) (rightF qs n p.1))
def sideR (rs qs : List (Str × PyData)) (m n : Nat) : List (Str × PyData) := leftR rs m n ++ rightR qs m n
/-- cells as new tuples -/
def Cells (f : Nat → Int × Int) (xs : List V) (k : Nat) (H : Hp) : Prop := xs.length = k ∧ ∀ i, i < k → ∃ p, xs[i]? = some (.ref p) ∧ H p = some (.tup [.int (f i).1, .int (f i).2])
theorem Cells.kp {f : Nat → Int × Int} {xs : List V} {k : Nat} {H H' : Hp} (h : Cells f xs k H) (kp : Kp [] H H') : Cells f xs k H' :=
  ⟨h.1, fun s hs => by
    obtain ⟨p, e, hp⟩ := h.2 s hs
    exact ⟨p, e, kp _ _ not0 hp⟩⟩
theorem Cells.snoc {f : Nat → Int × Int} {xs : List V} {k : Nat} {H : Hp} {p : Addr} (h : Cells f xs k H) (hp : H p = some (.tup [.int (f k).1, .int (f k).2])) : Cells f (xs ++ [.ref p]) (k + 1) H := by
  refine ⟨by rw [List.length_append, h.1]; rfl, fun s hs => ?_⟩
  by_cases z : s = k
  · subst z
    exact ⟨p, by rw [List.getElem?_append_right (by rw [h.1]; exact Nat.le_refl _), h.1, Nat.sub_self]; rfl, hp⟩
  · obtain ⟨p', e', hp'⟩ := h.2 s (by omega)
    exact ⟨p', by rw [List.getElem?_append_left (by rw [h.1]; omega)]; exact e', hp'⟩
theorem Cells.putL {f : Nat → Int × Int} {xs ys zs : List V} {k : Nat} {H : Hp} {D : Addr} (h : Cells f xs k H) (hD : H D = some (.lst ys)) : Cells f xs k (upd H D (.lst zs)) :=
  ⟨h.1, fun s hs => by
    obtain ⟨p, e, hp⟩ := h.2 s hs
    have ne : p ≠ D := fun z => by rw [z, hD] at hp; cases hp
    exact ⟨p, e, by rw [upd_ne ne]; exact hp⟩⟩
theorem Cells.dq {f : Nat → Int × Int} {H : Hp} : ∀ {k : Nat} {xs : List V}, Cells f xs k H → DqAll H xs ((List.range k).map fun i => cellD (f i))
  | 0, [], _ => .nil
  | 0, _ :: _, h => by cases h.1
  | k + 1, xs, h => by
    obtain ⟨p, e, hp⟩ := h.2 k (by omega)
    have hx : xs = xs.take k ++ [.ref p] := by rw [← take_snoc e, List.take_of_length_le (Nat.le_of_eq h.1)]
    have ih : Cells f (xs.take k) k H := ⟨by rw [List.length_take, h.1]; omega, fun i hi => by
      obtain ⟨p', e', hp'⟩ := h.2 i (by omega)
      exact ⟨p', by rw [List.getElem?_take_of_lt hi]; exact e', hp'⟩⟩
    rw [List.range_succ, List.map_append, hx]
    have app : ∀ {vs us : List V} {ds es : List PyData}, DqAll H vs ds → DqAll H us es → DqAll H (vs ++ us) (ds ++ es) := by
      intro vs us ds es h1 h2
      induction vs generalizing ds with
      | nil => cases h1; exact h2
      | cons v r ih =>
        cases h1 with
        | cons a b => exact .cons a (ih b)
    exact app ih.dq (.cons (.tup hp (.cons (.int _) (.cons (.int _) .nil))) .nil)
/-- a row over the states -/
theorem rowSt {K : PySem.W.Frag} {te : TE} {σ : L2.St} {H : Hp} {Q : VK} {st : Addr} {ps : List V} {m n : Nat} (hz : m * n ≤ 1000) (f : Nat → Int × Int) (hst : H st = some (.lst ps)) (hps : Cells (fun i => ((i / n : Nat), (i % n : Nat))) ps (m * n) H) (hv : ∀ R : VK, R (.ref st) H → tVar 3 σ H R)
    (hw : ∀ x y, wipe (((wipe σ [4, 5]).set 4 (some x)).set 5 (some y)) [4, 5] = wipe σ [4, 5])
    (body : ∀ (i : Nat) (H' : Hp) (R : VK), i < m * n → Kp [] H H' → (∀ p, H' p = none → R (.ref p) (upd H' p (.tup [.int (f i).1, .int (f i).2]))) → te (((wipe σ [4, 5]).set 4 (some (.int (i / n : Nat)))).set 5 (some (.int (i % n : Nat)))) H' R)
    (fin : ∀ D xs H', H D = none → H' D = some (.lst xs) → Cells f xs (m * n) H' → Kp [] H H' → Q (.ref D) H') :
    tLc (iList K (tVar 3)) (gTup K 2 (gCons (gName 4) (gCons (gName 5) gNil))) tYes te [4, 5] σ H Q := by
  unfold tLc iList
  refine hv _ ⟨st, rfl, ⟨ps, sq_l hst⟩, fun D nD => ?_⟩
  refine lc_list (xs := ps) (fun i H' => ∃ xs, H' D = some (.lst xs) ∧ Cells f xs i H' ∧ Kp [] H H') ⟨[], upd_same, ⟨rfl, fun s hs => absurd hs (by omega)⟩, Kp.new nD⟩ (fun i H' _ h => ?_) (fun i x H' hx h => ?_) fun H' h => ?_
  · obtain ⟨_, _, _, k⟩ := h
    exact sq_l (k _ _ not0 hst)
  · obtain ⟨xs, hD, ht, k⟩ := h
    have hi : i < m * n := by rw [← hps.1]; exact (List.getElem?_eq_some_iff.mp hx).1
    obtain ⟨p, e, hp⟩ := hps.2 i hi
    rw [hx] at e
    cases e
    have hp' := k _ _ not0 hp
    refine ⟨p, _, rfl, sq_t hp', rfl, _, _, rfl, _, _, rfl, rfl, hw _ _, ?_⟩
    simp only [tYes, if_true]
    refine body i H' _ hi k fun p np => ?_
    have kp : Kp [] H' (upd H' p (.tup [.int (f i).1, .int (f i).2])) := Kp.new np
    have hD2 := kp _ _ not0 hD
    exact ⟨xs, hD2, smallL (by rw [ht.1]; omega), xs ++ [.ref p], upd_same, ((ht.kp kp).snoc upd_same).putL hD2, (k.trans kp).wr nD⟩
  · obtain ⟨xs, hD, ht, k⟩ := h
    rw [hps.1] at ht
    exact fin D xs H' nD hD ht k
end My

set_option Elab.async false
set_option linter.all false
set_option maxRecDepth 100000
set_option maxHeartbeats 4000000
namespace My
open PySem L2 NdefX
def namesOf (rs : List (Str × PyData)) : List Str := rs.map (·.1)
def spAdd (TC SN TL : Addr) : Sp := fun vs H Q E => ∃ (o b : Addr) (m n : Nat) (f g : Int) (rs qs : List (Str × PyData)), vs = [.ref o, .ref b] ∧ TabAt TC H o m f rs ∧ TabAt TC H b n g qs ∧
  (∀ (i : Nat) (z : Str), (namesOf rs)[i]? = some z → z ∈ namesOf qs → (∀ j y, j < i → (namesOf rs)[j]? = some y → y ∉ namesOf qs) → ∀ (e : Addr) (H' : Hp), H e = none → H' e = some (.xd [("name", .str z)]) → Kp [] H H' → E (.ref SN) (some e) H') ∧
  ((∀ z ∈ namesOf rs, z ∉ namesOf qs) → 6 < rs.length + qs.length → ∀ (e : Addr) (H' : Hp), H e = none → H' e = some (.xd [("bound", .int 6)]) → Kp [] H H' → E (.ref TL) (some e) H') ∧
  ((∀ z ∈ namesOf rs, z ∉ namesOf qs) → ¬ 6 < rs.length + qs.length → 100 < m * n → ∀ (e : Addr) (H' : Hp), H e = none → H' e = some (.xd [("bound", .int 100)]) → Kp [] H H' → E (.ref TL) (some e) H') ∧
  ((∀ z ∈ namesOf rs, z ∉ namesOf qs) → ¬ 6 < rs.length + qs.length → ¬ 100 < m * n → ∀ (r : Addr) (H' : Hp), H r = none → TabAt TC H' r (m * n) (f * n + g) (sideR rs qs m n) → Kp [] H H' → Q (.ref r) H')
theorem rowsBad_of {rs : List (Str × PyData)} {M : Nat} (h1 : rs ≠ []) (h2 : rs.length ≤ 6) (hM : M = lenD (rs.headD ("", .none)).2) (h3 : ∀ q ∈ rs, goodR M q = true) : rowsBad rs = none := by
  cases rs with
  | nil => exact absurd rfl h1
  | cons p r =>
    show (if 7 ≤ (p :: r).length then some ("" : Str) else ((p :: r).find? fun q => !goodR (lenD p.2) q).map (·.1)) = none
    rw [if_neg (by omega)]
    have : ((p :: r).find? fun q => !goodR (lenD p.2) q) = none := by
      rw [List.find?_eq_none]
      intro q hq
      have hM' : M = lenD p.2 := hM
      have := h3 q hq
      rw [hM'] at this
      simp [this]
    rw [this]; rfl
def CellOk (rs : List (Str × PyData)) (m : Nat) : Prop := ∀ z ∈ namesOf rs, ∀ s : Nat, s < m → 0 ≤ (cellOf rs z s).1 ∧ (cellOf rs z s).1 < 10 ∧ 0 ≤ (cellOf rs z s).2 ∧ (cellOf rs z s).2 < m
theorem TabAt.cells {TC : Addr} {H : Hp} {o : Addr} {m : Nat} {first : Int} {rs : List (Str × PyData)} (h : TabAt TC H o m first rs) : CellOk rs m := fun z hz s hs => by
  obtain ⟨_, _, _, _, _, _, _, _, _, _, c⟩ := h.get hz
  obtain ⟨p, _, _, r⟩ := c s (by omega) (by omega)
  exact r
theorem TabAt.bnd {TC : Addr} {H : Hp} {o : Addr} {m : Nat} {first : Int} {rs : List (Str × PyData)} (h : TabAt TC H o m first rs) : rs ≠ [] ∧ rs.length ≤ 6 ∧ (∀ z ∈ namesOf rs, nameS z = true) ∧ 1 ≤ m ∧ m ≤ 100 ∧ 0 ≤ first ∧ first < m ∧ (namesOf rs).Nodup := by
  obtain ⟨dx, d, kvs, ho, hd, hr, nd, rb, em, f0, f1⟩ := h
  have g := rowsBad_none rb
  refine ⟨g.1, g.2.1, fun z hz => ?_, by omega, ?_, f0, f1, nd_names hr.keys nd⟩
  · obtain ⟨⟨z', dd⟩, hm, rfl⟩ := List.mem_map.mp hz
    exact (goodR_row (g.2.2 _ hm)).1
  · cases rs with
    | nil => exact absurd rfl g.1
    | cons p r =>
      obtain ⟨p1, p2⟩ := p
      obtain ⟨_, ds, e, hrow, hl⟩ := goodR_row (g.2.2 (p1, p2) (by simp))
      subst e
      have h' : (decide (1 ≤ ds.length) && (decide (ds.length ≤ 100) && ds.all (pairD ds.length))) = true := hrow
      rw [Bool.and_eq_true, Bool.and_eq_true, decide_eq_true_eq, decide_eq_true_eq] at h'
      have e2 : m = ds.length := em
      omega
theorem good_side {k : Nat} {z : Str} {f : Nat → Int × Int} (hz : nameS z = true) (k1 : 1 ≤ k) (k2 : k ≤ 100) (hf : ∀ i, i < k → 0 ≤ (f i).1 ∧ (f i).1 < 10 ∧ 0 ≤ (f i).2 ∧ (f i).2 < k) : goodR k (z, rowD2 k f) = true := by
  have hl : ((List.range k).map fun i => cellD (f i)).length = k := by simp
  unfold goodR rowD2
  have e2 : lenD (.list ((List.range k).map fun i => cellD (f i))) = k := hl
  have e3 : rowD (.list ((List.range k).map fun i => cellD (f i))) = true := by
    show (decide (1 ≤ ((List.range k).map fun i => cellD (f i)).length) && (decide (((List.range k).map fun i => cellD (f i)).length ≤ 100) && ((List.range k).map fun i => cellD (f i)).all (pairD ((List.range k).map fun i => cellD (f i)).length))) = true
    rw [hl, decide_eq_true k1, decide_eq_true k2, Bool.true_and, Bool.true_and, List.all_eq_true]
    intro d hd
    obtain ⟨i, hi, rfl⟩ := List.mem_map.mp hd
    obtain ⟨a, b, c, e⟩ := hf i (List.mem_range.mp hi)
    show ((decide (0 ≤ (f i).1) && decide ((f i).1 < 10)) && (decide (0 ≤ (f i).2) && decide ((f i).2 < k))) = true
    rw [decide_eq_true a, decide_eq_true b, decide_eq_true c, decide_eq_true e]; rfl
  show (nameS z && (rowD _ && lenD _ == k)) = true
  rw [hz, e3, e2]
  simp
theorem mul_bound {m n : Nat} {x : Int} {j : Nat} (h0 : 0 ≤ x) (h1 : x < m) (hj : j < n) : 0 ≤ x * n + j ∧ x * n + j < ((m * n : Nat) : Int) := by
  have h2 : x * n ≤ ((m : Int) - 1) * n := Int.mul_le_mul_of_nonneg_right (by omega) (by omega)
  have h3 : 0 ≤ x * (n : Int) := Int.mul_nonneg h0 (by omega)
  have h4 : ((m : Int) - 1) * n = (m : Int) * n - n := by rw [Int.sub_mul, Int.one_mul]
  have h5 : ((m * n : Nat) : Int) = (m : Int) * n := by push_cast; rfl
  constructor
  · omega
  · rw [h5]; omega
theorem leftF_ok {rs : List (Str × PyData)} {m n : Nat} {z : Str} (h : CellOk rs m) (hz : z ∈ namesOf rs) (i : Nat) (hi : i < m * n) : 0 ≤ (leftF rs n z i).1 ∧ (leftF rs n z i).1 < 10 ∧ 0 ≤ (leftF rs n z i).2 ∧ (leftF rs n z i).2 < ((m * n : Nat) : Int) := by
  have hn : 0 < n := by
    rcases Nat.eq_zero_or_pos n with e | e
    · subst e; simp at hi
    · exact e
  have h1 : i / n < m := (Nat.div_lt_iff_lt_mul hn).mpr hi
  obtain ⟨a, b, c, d⟩ := h z hz (i / n) h1
  have := mul_bound c d (Nat.mod_lt i hn)
  exact ⟨a, b, this.1, this.2⟩
theorem rightF_ok {qs : List (Str × PyData)} {m n : Nat} {z : Str} (h : CellOk qs n) (hz : z ∈ namesOf qs) (i : Nat) (hi : i < m * n) : 0 ≤ (rightF qs n z i).1 ∧ (rightF qs n z i).1 < 10 ∧ 0 ≤ (rightF qs n z i).2 ∧ (rightF qs n z i).2 < ((m * n : Nat) : Int) := by
  have hn : 0 < n := by
    rcases Nat.eq_zero_or_pos n with e | e
    · subst e; simp at hi
    · exact e
  have h1 : i / n < m := (Nat.div_lt_iff_lt_mul hn).mpr hi
  obtain ⟨a, b, c, d⟩ := h z hz (i % n) (Nat.mod_lt i hn)
  obtain ⟨y, ey⟩ := Int.eq_ofNat_of_zero_le c
  have hy : y < n := by omega
  have := mul_bound (m := m) (x := ((i / n : Nat) : Int)) (Int.natCast_nonneg _) (Int.ofNat_lt.mpr h1) hy
  refine ⟨a, b, ?_, ?_⟩
  · show 0 ≤ ((i / n : Nat) : Int) * (n : Int) + _
    rw [ey]; exact this.1
  · show ((i / n : Nat) : Int) * (n : Int) + _ < _
    rw [ey]; exact this.2
theorem names_side (rs qs : List (Str × PyData)) (m n : Nat) : namesOf (sideR rs qs m n) = namesOf rs ++ namesOf qs := by
  unfold namesOf sideR leftR rightR
  rw [List.map_append, List.map_map, List.map_map]; rfl
theorem side_ok {rs qs : List (Str × PyData)} {m n : Nat} (hr : rs ≠ []) (h6 : ¬ 6 < rs.length + qs.length) (hm : 1 ≤ m) (hn : 1 ≤ n) (h100 : ¬ 100 < m * n) (c1 : CellOk rs m) (c2 : CellOk qs n) (n1 : ∀ z ∈ namesOf rs, nameS z = true) (n2 : ∀ z ∈ namesOf qs, nameS z = true) : rowsBad (sideR rs qs m n) = none ∧ lenD ((sideR rs qs m n).headD ("", .none)).2 = m * n := by
  have k1 : 1 ≤ m * n := Nat.mul_pos hm hn
  have hd : lenD ((sideR rs qs m n).headD ("", .none)).2 = m * n := by
    cases rs with
    | nil => exact absurd rfl hr
    | cons p r =>
      show ((List.range (m * n)).map fun i => cellD (leftF (p :: r) n p.1 i)).length = m * n
      simp
  refine ⟨rowsBad_of (M := m * n) ?_ ?_ hd.symm fun q hq => ?_, hd⟩
  · cases rs with
    | nil => exact absurd rfl hr
    | cons p r => simp [sideR, leftR]
  · simp only [sideR, leftR, rightR, List.length_append, List.length_map]; omega
  · unfold sideR leftR rightR at hq
    rcases List.mem_append.mp hq with h | h
    · obtain ⟨p, hp, rfl⟩ := List.mem_map.mp h
      have hz : p.1 ∈ namesOf rs := List.mem_map_of_mem hp
      exact good_side (n1 _ hz) k1 (by omega) fun i hi => leftF_ok c1 hz i hi
    · obtain ⟨p, hp, rfl⟩ := List.mem_map.mp h
      have hz : p.1 ∈ namesOf qs := List.mem_map_of_mem hp
      exact good_side (n2 _ hz) k1 (by omega) fun i hi => rightF_ok c2 hz i hi
section
variable {P : Program} {w : World} {K : PySem.W.Frag} {mg : Str → Option Value} {base : Heap} {t1 t2 : Tok}
def Fst1 (o b d : Addr) (od : Obj) (kvs : List (Key × V)) (rs qs : List (Str × PyData)) (H : Hp) (i : Nat) (σ : L2.St) (H' : Hp) : Prop := ∃ c, σ = [some (.ref o), some (.ref b), c, none, none, none, none, none] ∧ H' d = some (.frz od (.dK kvs)) ∧ Kp [d] H H' ∧ ∀ j y, j < i → (namesOf rs)[j]? = some y → y ∉ namesOf qs
theorem TabAt.has2 {TC : Addr} {H H2 : Hp} {o : Addr} {m : Nat} {first : Int} {rs : List (Str × PyData)} (h : TabAt TC H o m first rs) {d : Addr} {u : HO} (hd : H d = some u) (hu : ∃ kvs : List (Key × V), u = .dK kvs) {od : Obj} (k : Kp [d] H H2) (hf : H2 d = some (.frz od u)) :
    ∃ (dx d' : Addr) (kvs : List (Key × V)), H2 o = some (.ins TC dx [("size", .int (m : Nat)), ("first", .int first), ("_rows", .ref d')]) ∧ Rd H2 d' (.dK kvs) ∧ ∀ z : Str, (valV kvs (Sum.inr z)).isSome = decide (z ∈ rs.map (·.1)) := by
  obtain ⟨dx, d', kvs, ho, hd', _, hv⟩ := h.has
  obtain ⟨kvs0, rfl⟩ := hu
  have od_ : o ≠ d := fun z => by rw [z, hd] at ho; cases ho
  refine ⟨dx, d', kvs, k _ _ (not1 od_) ho, ?_, hv⟩
  by_cases e : d' = d
  · subst e
    rw [hd] at hd'
    cases hd'
    exact .inr ⟨od, hf⟩
  · exact .inl (k _ _ (not1 e) hd')
theorem TabAt.get2 {TC : Addr} {H H2 : Hp} {o : Addr} {m : Nat} {first : Int} {rs : List (Str × PyData)} (h : TabAt TC H o m first rs) {z : Str} (hz : z ∈ namesOf rs) {d : Addr} {kv0 : List (Key × V)} (hd : H d = some (.dK kv0)) {od : Obj} (k : Kp [d] H H2) (hf : H2 d = some (.frz od (.dK kv0))) :
    ∃ (dx d' : Addr) (kvs : List (Key × V)) (a : Addr) (xs : List V), H2 o = some (.ins TC dx [("size", .int (m : Nat)), ("first", .int first), ("_rows", .ref d')]) ∧ Rd H2 d' (.dK kvs) ∧ valV kvs (Sum.inr z) = some (.ref a) ∧ H2 a = some (.lst xs) ∧ xs.length = m ∧
    ∀ s : Nat, s < m → ∃ p, xs[s]? = some (.ref p) ∧ H2 p = some (.tup [.int (cellOf rs z s).1, .int (cellOf rs z s).2]) := by
  obtain ⟨dx, d', kvs, a, xs, ho, hd', hv, ha, hl, c⟩ := h.get hz
  have ne : ∀ {x : Addr} {u : HO}, H x = some u → (∀ w, u ≠ .dK w) → x ≠ d := fun {x u} e nn z => by rw [z, hd] at e; cases e; exact nn _ rfl
  refine ⟨dx, d', kvs, a, xs, k _ _ (not1 (ne ho (fun w z => by cases z))) ho, ?_, hv, k _ _ (not1 (ne ha (fun w z => by cases z))) ha, hl, fun s hs => ?_⟩
  · by_cases e : d' = d
    · subst e
      rw [hd] at hd'
      cases hd'
      exact .inr ⟨od, hf⟩
    · exact .inl (k _ _ (not1 e) hd')
  · obtain ⟨p, ep, hp, _⟩ := c s (by omega) (by omega)
    exact ⟨p, ep, k _ _ (not1 (ne hp (fun w z => by cases z))) hp⟩
/-- ahead of the i-th row: those before stand in the new dict -/
def RowIn (o b d st R : Addr) (od : Obj) (kvs : List (Key × V)) (pre acc : List (Str × PyData)) (H : Hp) (i : Nat) (σ : L2.St) (H' : Hp) : Prop := ∃ c c7, σ = [some (.ref o), some (.ref b), c, some (.ref st), none, none, some (.ref R), c7] ∧ H' d = some (.frz od (.dK kvs)) ∧ Kp [d] H H' ∧ ∃ kv2, H' R = some (.dK kv2) ∧ RowsD H' kv2 (pre ++ acc.take i)
theorem Cells.kpN {f : Nat → Int × Int} {xs : List V} {k : Nat} {H H' : Hp} {S : List Addr} (h : Cells f xs k H) (kp : Kp S H H') (hS : ∀ a ∈ S, ∀ xs, H a ≠ some (.tup xs) ∧ H a ≠ some (.lst xs)) : Cells f xs k H' :=
  ⟨h.1, fun s hs => by
    obtain ⟨p, e, hp⟩ := h.2 s hs
    exact ⟨p, e, kp _ _ (fun m => (hS _ m _).1 hp) hp⟩⟩
theorem dk_no {H : Hp} {d : Addr} {kv : List (Key × V)} (e : H d = some (.dK kv)) : ∀ a ∈ [d], ∀ xs, H a ≠ some (.tup xs) ∧ H a ≠ some (.lst xs) := fun a m xs => by
  rw [List.mem_singleton.mp m, e]
  exact ⟨fun z => (by cases z), fun z => (by cases z)⟩
theorem names_left {rs : List (Str × PyData)} {m n i : Nat} : namesOf ((leftR rs m n).take i) = (namesOf rs).take i := by
  unfold namesOf leftR
  rw [List.map_take, List.map_map]; rfl
theorem names_right {rs : List (Str × PyData)} {m n i : Nat} : namesOf ((rightR rs m n).take i) = (namesOf rs).take i := by
  unfold namesOf rightR
  rw [List.map_take, List.map_map]; rfl
theorem sz_row {k : Nat} {f : Nat → Int × Int} : szD (rowD2 k f) = true := by
  have : ∀ ds : List PyData, (∀ d ∈ ds, szD d = true) → szAll ds = true := by
    intro ds h
    induction ds with
    | nil => rfl
    | cons d r ih =>
      show (szD d && szAll r) = true
      rw [h d List.mem_cons_self, ih fun x hx => h x (List.mem_cons_of_mem _ hx)]; rfl
  refine this _ fun d hd => ?_
  obtain ⟨i, _, rfl⟩ := List.mem_map.mp hd
  rfl
theorem putRow {H1 H6 : Hp} {R D : Addr} {kv2 : List (Key × V)} {A : List (Str × PyData)} {z : Str} {xs : List V} {k : Nat} {f : Nat → Int × Int} (hR : H1 R = some (.dK kv2)) (h : RowsD H1 kv2 A) (hz : z ∉ namesOf A) (kp : Kp [] H1 H6) (hD : H6 D = some (.lst xs)) (hc : Cells f xs k H6) (hk : k ≤ 1000) (hl : z.length ≤ 1000) :
    H6 R = some (.dK kv2) ∧ kv2.length = A.length ∧ putK kv2 (Sum.inr z) (.ref D) = kv2 ++ [(Sum.inr z, .ref D)] ∧ RowsD (upd H6 R (.dK (kv2 ++ [(Sum.inr z, .ref D)]))) (kv2 ++ [(Sum.inr z, .ref D)]) (A ++ [(z, rowD2 k f)]) := by
  have hR6 := kp _ _ not0 hR
  have kw : Kp [R] H6 (upd H6 R (.dK (kv2 ++ [(Sum.inr z, .ref D)]))) := (Kp.refl [R] _).put List.mem_cons_self
  have rno : ∀ a ∈ [R], ∀ xs', H6 a ≠ some (.tup xs') ∧ H6 a ≠ some (.lst xs') := fun a ha xs' => by
    rw [List.mem_singleton.mp ha, hR6]
    exact ⟨fun z => (by cases z), fun z => (by cases z)⟩
  refine ⟨hR6, h.1, putK_new _ (valV_fresh ?_), RowsD.app ((h.kp kp).kpN kw rno) ((Dq.lst hD hc.dq).kpN kw rno) sz_row (fun ds e => ?_) hl⟩
  · rw [h.keys]
    intro hm
    obtain ⟨z', hz', e⟩ := List.mem_map.mp hm
    cases e
    exact hz hz'
  · cases e
    simpa using hk
end
end My

set_option Elab.async false
set_option linter.all false
set_option maxRecDepth 100000
set_option maxHeartbeats 4000000
namespace My
open PySem L2 NdefX
abbrev s_law_mixed : Stmt := top 20
theorem sc_law_mixed : FnScope ["_law_cell", "_law_k", "_law_one", "_law_two"] ["_law_cell", "_law_k"] (defScope s_law_mixed) := ⟨rfl, rfl, rfl, by decide +kernel, rfl, by decide +kernel, by decide +kernel⟩
abbrev s_law_draws : Stmt := top 21
theorem sc_law_draws : FnScope ["_law_script", "_law_at", "_law_bounds", "_law_cell", "_law_rest", "_law_great", "_law_found", "_law_bound"] ["_law_script", "_law_at", "_law_bounds"] (defScope s_law_draws) := ⟨rfl, rfl, rfl, by decide +kernel, rfl, by decide +kernel, by decide +kernel⟩
structure BtG (mg : Str → Option Value) : Prop where
  b_int : mg "int" = none
  b_len : mg "len" = none
  b_abs : mg "abs" = none
section
variable {P : Program} {w : World} {K : PySem.W.Frag} {mg : Str → Option Value} {base : Heap}
def spMixed : Sp := fun vs H Q _ => ∃ (c k : Int), vs = [.int c, .int k] ∧ 0 ≤ k ∧ k ≤ 2000000 ∧ ∀ r : Int, 0 ≤ r → r < 2147483587 → Q (.int r) H
theorem ok_law_mixed {f : Addr} {fd : FuncData} (D : Df K mg "_law_mixed" s_law_mixed ["_law_cell", "_law_k"] f fd) (T : BtG mg) : FnOk P w K mg base CX0 1 f fd ["_law_cell", "_law_k"] spMixed := by
  refine D.F.ok sc_law_mixed (fun vs H Q E h => ?_) (fun cdv A outer s H vs Q E hr h => ?_)
  · obtain ⟨c, k, rfl, _⟩ := h
    rfl
  · obtain ⟨c, k, rfl, k0, k1, q⟩ := h
    refine ⟨_, (pss_cons (ps_set (i := 2) sc_law_mixed.nd rfl (Or.inl rfl) (pe_op op_mod (pe_callTy (T := "int") call_int1 (by rfl) T.b_int (by decide +kernel) (pa_cons (pe_op op_add (pe_op op_add (pe_op op_mul (pv 0) pe_int) (pe_op op_mul (pv 1) pe_int)) pe_int) pa_nil)) pe_int))
      (pss_cons (ps_set (i := 3) sc_law_mixed.nd rfl (Or.inl rfl) (pe_op op_mod (pe_callTy (T := "int") call_int1 (by rfl) T.b_int (by decide +kernel) (pa_cons (pe_op op_add (pe_op op_add (pe_op op_mul (pv 2) (pv 2)) (pe_op op_mul (pv 1) pe_int)) pe_int) pa_nil)) pe_int))
      (pss_one (ps_ret (pe_op op_mod (pe_callTy (T := "int") call_int1 (by rfl) T.b_int (by decide +kernel) (pa_cons (pe_op op_add (pe_op op_mul (pv 3) (pv 3)) (pv 2)) pa_nil)) pe_int))))), ?_⟩
    try simp only [tSeq, tIfS, tTest, tOp, tUn, tCB, tCons, tNil, tVar, tC, rI0, rI, rU, rEq, rNe, tRet, tRetN, tAsg, gName, gSub, tBM, tBM0, tNext, tB, tNot, tAnd, tOr, tIf, tCall, tDrop, tBreak, tCont, L2.start, tDGet, sDPut, tTup, tLst, tDNewK, tRevL, rCat, rAppend, rPop, rSetL, tAndV, tOrV, tNotV, tSl, tPart, tNoPart, tM1, gTup, gCons, gNil, cxK, cxnK, List.map_cons, List.map_nil, List.length_cons, List.length_nil, List.replicate, List.cons_append, List.nil_append, List.append_nil, List.set_cons_zero, List.set_cons_succ, List.getElem?_cons_zero, List.getElem?_cons_succ, Option.some.injEq, V.ref.injEq, V.int.injEq, V.str.injEq, V.bl.injEq, V.ty.injEq, exists_eq_left', exists_eq_left, exists_and_left, List.cons.injEq, and_true, true_and, sc_ii, sc_ss, sc_bb, sc_ni, sc_in, sc_is, sc_si, sc_nn, decide_true, decide_false, reduceCtorEq, Bool.false_eq_true, if_true, if_false, ite_true, ite_false, exists_const, eq_self, false_and, and_false, or_false, false_or, exists_false, Evl.rLenS, rSum, wipe, tYes, exists_eq, exists_eq', rIxL, rIxT, rIxS, exists_and_right, gt_iff_lt, not_true_eq_false, not_false_eq_true, Bool.not_true, Bool.not_false, decide_eq_true_eq, Nat.reduceSub, Nat.reduceAdd, List.append_assoc, tChain, tDIn, tDNotIn, sDDel, tAug, ipI]
    have m1 := Int.emod_nonneg (c * 48271 + k * 69621 + 17) (show (2147483647 : Int) ≠ 0 by decide)
    have m2 := Int.emod_lt_of_pos (c * 48271 + k * 69621 + 17) (show (0 : Int) < 2147483647 by decide)
    generalize (c * 48271 + k * 69621 + 17) % 2147483647 = x at m1 m2 ⊢
    have m3 := Int.emod_nonneg (x * x + k * 16807 + 29) (show (2147483629 : Int) ≠ 0 by decide)
    have m4 := Int.emod_lt_of_pos (x * x + k * 16807 + 29) (show (0 : Int) < 2147483629 by decide)
    generalize (x * x + k * 16807 + 29) % 2147483629 = y at m3 m4 ⊢
    exact ⟨.inr ⟨by decide, by decide⟩, .inr ⟨by decide, by decide⟩, by decide, .inl ⟨by omega, by omega⟩, .inr ⟨by decide, by decide⟩, by decide, .inl ⟨by omega, by omega⟩, by decide, q _ (Int.emod_nonneg _ (by decide)) (Int.emod_lt_of_pos _ (by decide))⟩
theorem lg2 (b : Int) (h : b.natAbs ≤ 1000000000000) : b.natAbs.log2 < 9000 := by
  by_cases z : b.natAbs = 0
  · rw [z]; decide
  · exact Nat.lt_trans ((Nat.log2_lt z).mpr (Nat.lt_of_le_of_lt h (show 1000000000000 < 2 ^ 40 by decide))) (by decide)
/-- the script -/
def Scr (K : PySem.W.Frag) (H : Hp) (a : Addr) (ns : List Int) : Prop := SqL K H a (ns.map V.int) ∧ ns.length ≤ 63
def DrawOk (bs ds : List Int) : Prop := ds.length = bs.length ∧ ∀ (i : Nat) (d b : Int), ds[i]? = some d → bs[i]? = some b → 0 ≤ d ∧ d < b
def spDraws (K : PySem.W.Frag) : Sp := fun vs H Q _ => ∃ (a bl : Addr) (at_ : Nat) (ns bs : List Int), vs = [.ref a, .int (at_ : Nat), .ref bl] ∧ Scr K H a ns ∧ at_ ≤ 1000 ∧ H bl = some (.lst (bs.map V.int)) ∧ bs.length ≤ 10000 ∧ (∀ b ∈ bs, 1 ≤ b ∧ b ≤ 1000000000000) ∧
  ∀ (r : Addr) (ds : List Int) (H' : Hp), H r = none → H' r = some (.lst (ds.map V.int)) → DrawOk bs ds → Kp [] H H' → Q (.ref r) H'
theorem ok_law_draws {f : Addr} {fd : FuncData} (D : Df K mg "_law_draws" s_law_draws ["_law_script", "_law_at", "_law_bounds"] f fd) (T : BtG mg) {fg : Addr} {fdg : FuncData} (D_law_mixed : Df K mg "_law_mixed" s_law_mixed ["_law_cell", "_law_k"] fg fdg) (G_law_mixed : FnOk P w K mg base CX0 1 fg fdg ["_law_cell", "_law_k"] spMixed) : FnOk P w K mg base CX0 2 f fd ["_law_script", "_law_at", "_law_bounds"] (spDraws K) := by
  refine D.F.ok sc_law_draws (fun vs H Q E h => ?_) (fun cdv A outer s H vs Q E hr h => ?_)
  · obtain ⟨a, bl, at_, ns, bs, rfl, _⟩ := h
    rfl
  · obtain ⟨a, bl, at_, ns, bs, rfl, ⟨hS, hl⟩, a1, hb, bz, b1, q⟩ := h
    refine ⟨_, (pss_cons (ps_if (pt_cmpR op_eq (pe_callB (id := "len") (r := Evl.rLenS K) call_len_seq (by rfl) T.b_len PySem.boot_len (pa_cons (pv 0) pa_nil)) pe_int (nomark _)) (pss_one (ps_ret (pe_op op_rep (pe_lst (pa_cons pe_int pa_nil)) (pe_callB (id := "len") (r := Evl.rLenS K) call_len_seq (by rfl) T.b_len PySem.boot_len (pa_cons (pv 2) pa_nil))))) pss_nil)
      (pss_cons (ps_set (i := 3) sc_law_draws.nd rfl (Or.inl rfl) (pe_callTy (T := "int") call_int1 (by rfl) T.b_int (by decide +kernel) (pa_cons (pe_ix (r := rIxL K) ix_list (pv 0) (pe_op op_mod (pe_callTy (T := "int") call_int1 (by rfl) T.b_int (by decide +kernel) (pa_cons (pv 1) pa_nil)) (pe_callB (id := "len") (r := Evl.rLenS K) call_len_seq (by rfl) T.b_len PySem.boot_len (pa_cons (pv 0) pa_nil))) (fun _ _ => rfl)) pa_nil)))
      (pss_cons (ps_if (pt_cmpR op_ge (pv 1) (pe_callB (id := "len") (r := Evl.rLenS K) call_len_seq (by rfl) T.b_len PySem.boot_len (pa_cons (pv 0) pa_nil)) (nomark _)) (pss_one (ps_set (i := 3) sc_law_draws.nd rfl (Or.inl rfl) (pe_op op_mod (pe_callTy (T := "int") call_int1 (by rfl) T.b_int (by decide +kernel) (pa_cons (pv 3) pa_nil)) pe_int))) pss_nil)
      (pss_cons (ps_set (i := 4) sc_law_draws.nd rfl (Or.inl rfl) (pe_callB (id := "abs") call_abs (by rfl) T.b_abs (by decide +kernel) (pa_cons (pv 3) pa_nil)))
      (pss_cons (ps_set (i := 5) sc_law_draws.nd rfl (Or.inl rfl) (pe_cmpR op_ge (pv 4) (pe_op op_pow pe_int pe_int) (nomark _)))
      (pss_cons (ps_set (i := 6) sc_law_draws.nd rfl (Or.inl rfl) (pe_lst pa_nil))
      (pss_cons (ps_for PassesOwn.never rfl (pi_list (pv 2)) (pg_name (i := 7) sc_law_draws.nd rfl (Or.inl rfl)) (pss_one (ps_if (pt_val (pv 5)) (pss_cons (ps_expr (pe_bm PySem.F.plainAttrs_list PySem.F.slot_list_append PySem.F.type_list_append mt_append (pv 6) (pa_cons (pe_op op_mod (pe_callTy (T := "int") call_int1 (by rfl) T.b_int (by decide +kernel) (pa_cons (pv 4) pa_nil)) (pv 7)) pa_nil)))
      (pss_one (ps_set (i := 4) sc_law_draws.nd rfl (Or.inl rfl) (pe_op op_fdivW (pv 4) (pv 7))))) (pss_one (ps_expr (pe_bm PySem.F.plainAttrs_list PySem.F.slot_list_append PySem.F.type_list_append mt_append (pv 6) (pa_cons (pe_op op_mod (pe_callTy (T := "int") call_int1 (by rfl) T.b_int (by decide +kernel) (pa_cons (pe_call G_law_mixed (hr.mono (by decide)) rfl D_law_mixed.g D_law_mixed.F.kp D_law_mixed.b .nil pass0 (pa_cons (pv 3) (pa_cons (pe_op op_add (pe_op op_mul pe_int (pv 1)) (pe_callB (id := "len") (r := Evl.rLenS K) call_len_seq (by rfl) T.b_len PySem.boot_len (pa_cons (pv 6) pa_nil))) pa_nil))) pa_nil)) (pv 7)) pa_nil)))))))
      (pss_one (ps_ret (pv 6)))))))))), ?_⟩
    try simp only [tSeq, tIfS, tTest, tOp, tUn, tCB, tCons, tNil, tVar, tC, rI0, rI, rU, rEq, rNe, tRet, tRetN, tAsg, gName, gSub, tBM, tBM0, tNext, tB, tNot, tAnd, tOr, tIf, tCall, tDrop, tBreak, tCont, L2.start, tDGet, sDPut, tTup, tLst, tDNewK, tRevL, rCat, rAppend, rPop, rSetL, tAndV, tOrV, tNotV, tSl, tPart, tNoPart, tM1, gTup, gCons, gNil, cxK, cxnK, List.map_cons, List.map_nil, List.length_cons, List.length_nil, List.replicate, List.cons_append, List.nil_append, List.append_nil, List.set_cons_zero, List.set_cons_succ, List.getElem?_cons_zero, List.getElem?_cons_succ, Option.some.injEq, V.ref.injEq, V.int.injEq, V.str.injEq, V.bl.injEq, V.ty.injEq, exists_eq_left', exists_eq_left, exists_and_left, List.cons.injEq, and_true, true_and, sc_ii, sc_ss, sc_bb, sc_ni, sc_in, sc_is, sc_si, sc_nn, decide_true, decide_false, reduceCtorEq, Bool.false_eq_true, if_true, if_false, ite_true, ite_false, exists_const, eq_self, false_and, and_false, or_false, false_or, exists_false, Evl.rLenS, rSum, wipe, tYes, exists_eq, exists_eq', rIxL, rIxT, rIxS, exists_and_right, gt_iff_lt, not_true_eq_false, not_false_eq_true, Bool.not_true, Bool.not_false, decide_eq_true_eq, Nat.reduceSub, Nat.reduceAdd, List.append_assoc, tChain, tDIn, tDNotIn, sDDel, tAug, ipI]
    refine ⟨_, .inl hS, ?_⟩
    rw [List.length_map]
    have zero_ok : DrawOk bs (List.replicate bs.length 0) := ⟨by simp, fun i d b hd hb' => by
      rw [List.getElem?_replicate] at hd
      split at hd
      · cases hd
        exact ⟨by decide, by have := (b1 b (List.mem_of_getElem? hb')).1; omega⟩
      · cases hd⟩
    refine ite2 (fun h1 => ?_) (fun h1 => ?_)
    · refine ⟨by decide, fun p np => ?_⟩
      have kp : Kp [] H (upd H p (.lst [.int 0])) := Kp.new np
      try simp only [tSeq, tIfS, tTest, tOp, tUn, tCB, tCons, tNil, tVar, tC, rI0, rI, rU, rEq, rNe, tRet, tRetN, tAsg, gName, gSub, tBM, tBM0, tNext, tB, tNot, tAnd, tOr, tIf, tCall, tDrop, tBreak, tCont, L2.start, tDGet, sDPut, tTup, tLst, tDNewK, tRevL, rCat, rAppend, rPop, rSetL, tAndV, tOrV, tNotV, tSl, tPart, tNoPart, tM1, gTup, gCons, gNil, cxK, cxnK, List.map_cons, List.map_nil, List.length_cons, List.length_nil, List.replicate, List.cons_append, List.nil_append, List.append_nil, List.set_cons_zero, List.set_cons_succ, List.getElem?_cons_zero, List.getElem?_cons_succ, Option.some.injEq, V.ref.injEq, V.int.injEq, V.str.injEq, V.bl.injEq, V.ty.injEq, exists_eq_left', exists_eq_left, exists_and_left, List.cons.injEq, and_true, true_and, sc_ii, sc_ss, sc_bb, sc_ni, sc_in, sc_is, sc_si, sc_nn, decide_true, decide_false, reduceCtorEq, Bool.false_eq_true, if_true, if_false, ite_true, ite_false, exists_const, eq_self, false_and, and_false, or_false, false_or, exists_false, Evl.rLenS, rSum, wipe, tYes, exists_eq, exists_eq', rIxL, rIxT, rIxS, exists_and_right, gt_iff_lt, not_true_eq_false, not_false_eq_true, Bool.not_true, Bool.not_false, decide_eq_true_eq, Nat.reduceSub, Nat.reduceAdd, List.append_assoc, tChain, tDIn, tDNotIn, sDDel, tAug, ipI, rRep]
      refine ⟨_, .inl (sq_l (kp _ _ not0 hb)), [.int 0], upd_same, by rw [List.length_map]; omega, by rw [List.length_map]; omega, ?_, fun r nr => ?_⟩
      · rw [List.length_map, List.length_singleton, Int.toNat_natCast]
        have := (smallL (n := bs.length) (by omega))
        omega
      · have nr' := kp.free0 nr
        refine q r (List.replicate bs.length 0) _ nr' ?_ zero_ok (kp.trans (Kp.new nr))
        have fl : ∀ n : Nat, (List.replicate n [V.int 0]).flatten = (List.replicate n (0 : Int)).map V.int := by
          intro n
          induction n with
          | zero => rfl
          | succ n ih => rw [List.replicate_succ, List.replicate_succ, List.flatten_cons, ih]; rfl
        rw [upd_same, List.length_map, Int.toNat_natCast, fl]
    · have tail : ∀ (p : Addr), H p = none → ∀ (cell rest : Int) (gr : Bool), 0 ≤ rest → (tFor (iList K (tVar 2)) (gName 7)
          (tIfS (tB (tVar 5)) (tSeq (tDrop (tBM K "list" rAppend (tVar 6) (tCons (tOp (rI (fun _ j => 0 < j) fun i j => V.int (i % j)) (tCB (fun xs H Q => (∃ i, xs = [V.int i] ∧ Q (V.int i) H) ∨ ∃ k, xs = [V.bl k] ∧ Q (V.int (if k = true then 1 else 0)) H) (tCons (tVar 4) tNil)) (tVar 7)) tNil))) (tAsg (tOp (rI CDivW fun i j => V.int (i / j)) (tVar 4) (tVar 7)) (gName 4)))
            (tDrop (tBM K "list" rAppend (tVar 6) (tCons (tOp (rI (fun _ j => 0 < j) fun i j => V.int (i % j)) (tCB (fun xs H Q => (∃ i, xs = [V.int i] ∧ Q (V.int i) H) ∨ ∃ k, xs = [V.bl k] ∧ Q (V.int (if k = true then 1 else 0)) H) (tCons (tCall spMixed [] E0 (tCons (tVar 3) (tCons (tOp (rI0 fun i j => V.int (i + j)) (tOp (rI CMul fun i j => V.int (i * j)) (tC (V.int 1009)) (tVar 1)) (tCB (Evl.rLenS K) (tCons (tVar 6) tNil))) tNil))) tNil)) (tVar 7)) tNil)))))
          { nx := tRet (tVar 6) { nx := fun x H' => Q V.non H', rt := Q }, rt := Q } [some (V.ref a), some (V.int (at_ : Nat)), some (V.ref bl), some (V.int cell), some (V.int rest), some (V.bl gr), some (V.ref p), none] (upd H p (HO.lst [])) := by
        intro p np cell rest0 gr r2
        have kp : Kp [] H (upd H p (.lst [])) := Kp.new np
        refine ⟨.ref bl, rfl, bl, rfl, ⟨_, sq_l (kp _ _ not0 hb)⟩, for_list (K := K) (a := bl) (xs := bs.map V.int) (fun i σ H' => ∃ (rest : Int) (c7 : Option V) (ds : List Int), σ = [some (.ref a), some (.int (at_ : Nat)), some (.ref bl), some (.int cell), some (.int rest), some (.bl gr), some (.ref p), c7] ∧ 0 ≤ rest ∧ H' p = some (.lst (ds.map V.int)) ∧ DrawOk (bs.take i) ds ∧ Kp [] H H') ⟨rest0, none, [], rfl, r2, upd_same, ⟨rfl, fun i d b e => by cases e⟩, kp⟩ (fun i σ H' _ h => by obtain ⟨_, _, _, _, _, _, _, k⟩ := h; exact k.ls not0 (sq_l hb)) ?_ ?_⟩
        · rintro i v σ H1 hx ⟨rest, c7, ds, rfl, s0, hp, hd, k1⟩
          obtain ⟨b, eb, rfl⟩ : ∃ b, bs[i]? = some b ∧ V.int b = v := by
            rw [List.getElem?_map] at hx
            cases e : bs[i]? with
            | none => rw [e] at hx; cases hx
            | some b => rw [e] at hx; exact ⟨b, rfl, Option.some.inj hx⟩
          have bb := b1 b (List.mem_of_getElem? eb)
          have il := (List.getElem?_eq_some_iff.mp eb).1
          have dl : ds.length = i := by rw [hd.1, List.length_take]; omega
          have more : ∀ d : Int, 0 ≤ d → d < b → DrawOk (bs.take (i + 1)) (ds ++ [d]) := fun d d0 d1 => ⟨by rw [take_snoc eb, List.length_append, List.length_append, hd.1]; rfl, fun j d' b' hj hb' => by
            rw [take_snoc eb] at hb'
            have lt : (bs.take i).length = i := by rw [List.length_take]; omega
            rcases Nat.lt_trichotomy j i with w | w | w
            · rw [List.getElem?_append_left (by omega)] at hj hb'
              exact hd.2 j d' b' hj hb'
            · subst w
              rw [List.getElem?_append_right (by omega)] at hj hb'
              rw [dl, Nat.sub_self] at hj
              rw [lt, Nat.sub_self] at hb'
              cases hj
              cases hb'
              exact ⟨d0, d1⟩
            · rw [List.getElem?_append_right (by omega), dl, List.getElem?_eq_none (by simp; omega)] at hj
              cases hj⟩
          have sl : (ds.map V.int).length < sizeLine := smallL (by rw [List.length_map]; omega)
          cases gr with
          | true =>
            try simp only [tSeq, tIfS, tTest, tOp, tUn, tCB, tCons, tNil, tVar, tC, rI0, rI, rU, rEq, rNe, tRet, tRetN, tAsg, gName, gSub, tBM, tBM0, tNext, tB, tNot, tAnd, tOr, tIf, tCall, tDrop, tBreak, tCont, L2.start, tDGet, sDPut, tTup, tLst, tDNewK, tRevL, rCat, rAppend, rPop, rSetL, tAndV, tOrV, tNotV, tSl, tPart, tNoPart, tM1, gTup, gCons, gNil, cxK, cxnK, List.map_cons, List.map_nil, List.length_cons, List.length_nil, List.replicate, List.cons_append, List.nil_append, List.append_nil, List.set_cons_zero, List.set_cons_succ, List.getElem?_cons_zero, List.getElem?_cons_succ, Option.some.injEq, V.ref.injEq, V.int.injEq, V.str.injEq, V.bl.injEq, V.ty.injEq, exists_eq_left', exists_eq_left, exists_and_left, List.cons.injEq, and_true, true_and, sc_ii, sc_ss, sc_bb, sc_ni, sc_in, sc_is, sc_si, sc_nn, decide_true, decide_false, reduceCtorEq, Bool.false_eq_true, if_true, if_false, ite_true, ite_false, exists_const, eq_self, false_and, and_false, or_false, false_or, exists_false, Evl.rLenS, rSum, wipe, tYes, exists_eq, exists_eq', rIxL, rIxT, rIxS, exists_and_right, gt_iff_lt, not_true_eq_false, not_false_eq_true, Bool.not_true, Bool.not_false, decide_eq_true_eq, Nat.reduceSub, Nat.reduceAdd, List.append_assoc, tChain, tDIn, tDNotIn, sDDel, tAug, ipI]
            exact ⟨.inl ⟨rfl, _, sq_l hp⟩, by omega, _, hp, sl, ⟨by omega, lg2 _ (by omega)⟩, Int.ediv_nonneg s0 (by omega), ds ++ [rest % b], by rw [upd_same, List.map_append]; rfl, more _ (Int.emod_nonneg _ (by omega)) (Int.emod_lt_of_pos _ (by omega)), k1.wr np⟩
          | false =>
            try simp only [tSeq, tIfS, tTest, tOp, tUn, tCB, tCons, tNil, tVar, tC, rI0, rI, rU, rEq, rNe, tRet, tRetN, tAsg, gName, gSub, tBM, tBM0, tNext, tB, tNot, tAnd, tOr, tIf, tCall, tDrop, tBreak, tCont, L2.start, tDGet, sDPut, tTup, tLst, tDNewK, tRevL, rCat, rAppend, rPop, rSetL, tAndV, tOrV, tNotV, tSl, tPart, tNoPart, tM1, gTup, gCons, gNil, cxK, cxnK, List.map_cons, List.map_nil, List.length_cons, List.length_nil, List.replicate, List.cons_append, List.nil_append, List.append_nil, List.set_cons_zero, List.set_cons_succ, List.getElem?_cons_zero, List.getElem?_cons_succ, Option.some.injEq, V.ref.injEq, V.int.injEq, V.str.injEq, V.bl.injEq, V.ty.injEq, exists_eq_left', exists_eq_left, exists_and_left, List.cons.injEq, and_true, true_and, sc_ii, sc_ss, sc_bb, sc_ni, sc_in, sc_is, sc_si, sc_nn, decide_true, decide_false, reduceCtorEq, Bool.false_eq_true, if_true, if_false, ite_true, ite_false, exists_const, eq_self, false_and, and_false, or_false, false_or, exists_false, Evl.rLenS, rSum, wipe, tYes, exists_eq, exists_eq', rIxL, rIxT, rIxS, exists_and_right, gt_iff_lt, not_true_eq_false, not_false_eq_true, Bool.not_true, Bool.not_false, decide_eq_true_eq, Nat.reduceSub, Nat.reduceAdd, List.append_assoc, tChain, tDIn, tDNotIn, sDDel, tAug, ipI]
            exact ⟨.inl ⟨rfl, _, sq_l hp⟩, .inl ⟨by decide, by decide⟩, _, .inl (sq_l hp), cell, _, rfl, by omega, by rw [List.length_map]; omega, fun r r0 r1 => .inl ⟨r, rfl, by omega, _, hp, sl, s0, ds ++ [r % b], by rw [upd_same, List.map_append]; rfl, more _ (Int.emod_nonneg _ (by omega)) (Int.emod_lt_of_pos _ (by omega)), k1.wr np⟩⟩
        · rintro σ H1 ⟨rest, c7, ds, rfl, s0, hp, hd, k1⟩
          rw [List.length_map, List.take_length] at hd
          try simp only [tSeq, tIfS, tTest, tOp, tUn, tCB, tCons, tNil, tVar, tC, rI0, rI, rU, rEq, rNe, tRet, tRetN, tAsg, gName, gSub, tBM, tBM0, tNext, tB, tNot, tAnd, tOr, tIf, tCall, tDrop, tBreak, tCont, L2.start, tDGet, sDPut, tTup, tLst, tDNewK, tRevL, rCat, rAppend, rPop, rSetL, tAndV, tOrV, tNotV, tSl, tPart, tNoPart, tM1, gTup, gCons, gNil, cxK, cxnK, List.map_cons, List.map_nil, List.length_cons, List.length_nil, List.replicate, List.cons_append, List.nil_append, List.append_nil, List.set_cons_zero, List.set_cons_succ, List.getElem?_cons_zero, List.getElem?_cons_succ, Option.some.injEq, V.ref.injEq, V.int.injEq, V.str.injEq, V.bl.injEq, V.ty.injEq, exists_eq_left', exists_eq_left, exists_and_left, List.cons.injEq, and_true, true_and, sc_ii, sc_ss, sc_bb, sc_ni, sc_in, sc_is, sc_si, sc_nn, decide_true, decide_false, reduceCtorEq, Bool.false_eq_true, if_true, if_false, ite_true, ite_false, exists_const, eq_self, false_and, and_false, or_false, false_or, exists_false, Evl.rLenS, rSum, wipe, tYes, exists_eq, exists_eq', rIxL, rIxT, rIxS, exists_and_right, gt_iff_lt, not_true_eq_false, not_false_eq_true, Bool.not_true, Bool.not_false, decide_eq_true_eq, Nat.reduceSub, Nat.reduceAdd, List.append_assoc, tChain, tDIn, tDNotIn, sDDel, tAug, ipI]
          exact q p ds H1 np hp hd k1
      have len0 : (0 : Int) < (ns.length : Nat) := by omega
      have r0 := Int.emod_nonneg (at_ : Int) (show ((ns.length : Nat) : Int) ≠ 0 by omega)
      have r1 := Int.emod_lt_of_pos (at_ : Int) len0
      obtain ⟨v, hv, ev⟩ := atI_ex (xs := ns.map V.int) r0 (by rw [List.length_map]; exact r1)
      obtain ⟨x, _, rfl⟩ := List.mem_map.mp hv
      refine ⟨_, .inl hS, by rw [List.length_map]; exact len0, _, hS, _, by rw [List.length_map]; exact ev, .inl ⟨x, rfl, _, .inl hS, ?_⟩⟩
      have p18 : CPow 10 18 := ⟨by decide, by decide, by decide⟩
      rw [List.length_map]
      refine ite2 (fun h2 => ?_) (fun h2 => ?_)
      · refine ⟨by decide, p18, Nat.zero_le _, fun p np => ?_⟩
        have r2 : 0 ≤ (if x % 1000003 < 0 then -(x % 1000003) else x % 1000003) := by split <;> omega
        generalize (if x % 1000003 < 0 then -(x % 1000003) else x % 1000003) = rest at r2 ⊢
        generalize x % 1000003 = cell
        generalize decide (10 ^ Int.toNat 18 ≤ rest) = gr
        exact tail p np cell rest gr r2
      · refine ⟨p18, Nat.zero_le _, fun p np => ?_⟩
        have r2 : 0 ≤ (if x < 0 then -x else x) := by split <;> omega
        generalize (if x < 0 then -x else x) = rest at r2 ⊢
        generalize decide (10 ^ Int.toNat 18 ≤ rest) = gr
        exact tail p np x rest gr r2
end
end My

set_option Elab.async false
set_option linter.all false
set_option maxRecDepth 100000
set_option maxHeartbeats 4000000
namespace My
open PySem L2
def tx (cs : List Nat) : Str := ⟨cs.toArray⟩
theorem tx_inj {a b : List Nat} (h : tx a = tx b) : a = b := by
  have e : a.toArray = b.toArray := congrArg Str.cps h
  simpa using e
theorem tx_len (cs : List Nat) : (tx cs).length = cs.length := by
  show cs.toArray.size = _
  simp
theorem tx_list (cs : List Nat) : (tx cs).cps.toList = cs := by
  show cs.toArray.toList = cs
  simp
theorem tx_app (a b : List Nat) : tx a ++ tx b = tx (a ++ b) := by
  show (⟨a.toArray ++ b.toArray⟩ : Str) = ⟨(a ++ b).toArray⟩
  simp
theorem join_ones : ∀ cs : List Nat, Txt.join "" (cs.map fun c => tx [c]) = tx cs := by
  intro cs
  have e := SX.join_S [] (cs.map fun c => [c])
  have e2 : (cs.map fun c => [c]).map SX.S = cs.map fun c => tx [c] := by rw [List.map_map]; rfl
  rw [e2] at e
  have e3 : TL.joinL [] (cs.map fun c => [c]) = cs := by
    clear e e2
    induction cs with
    | nil => rfl
    | cons c r ih =>
      cases r with
      | nil => rfl
      | cons d r =>
        show [c] ++ ([] ++ TL.joinL [] ((d :: r).map fun c => [c])) = c :: d :: r
        rw [ih]; rfl
  rw [e3] at e
  exact e
theorem cutTo (cs : List Nat) (k : Nat) : cutS (tx cs) none (some (k : Int)) = tx (cs.take k) := by
  unfold cutS
  rw [HT.sIx_none, HT.sIx_nat, tx_list, tx_len, List.drop_zero, Nat.sub_zero]
  show tx _ = tx _
  congr 1
  rcases Nat.le_total k cs.length with h | h
  · rw [Nat.min_eq_left h]
  · rw [Nat.min_eq_right h, List.take_length, List.take_of_length_le h]
theorem cutFrom (cs : List Nat) (k : Nat) : cutS (tx cs) (some (k : Int)) none = tx (cs.drop k) := by
  unfold cutS
  rw [HT.sIx_none, HT.sIx_nat, tx_list, tx_len]
  show tx _ = tx _
  congr 1
  rcases Nat.le_total k cs.length with h | h
  · rw [Nat.min_eq_left h, List.take_of_length_le (by rw [List.length_drop]; exact Nat.le_refl _)]
  · rw [Nat.min_eq_right h, List.drop_of_length_le h, List.drop_length]; simp
def vari (cs : List Nat) (s c : Nat) : List Nat := cs.take s ++ ([c] ++ cs.drop (s + 1))
theorem vari_len {cs : List Nat} {s c : Nat} (h : s < cs.length) : (vari cs s c).length = cs.length := by
  simp [vari]; omega
theorem vari_vari {cs : List Nat} {s c d : Nat} (h : s < cs.length) : vari (vari cs s c) s d = vari cs s d := by
  have l : (cs.take s).length = s := by rw [List.length_take]; omega
  unfold vari
  rw [List.take_append_of_le_length (by omega), List.take_of_length_le (by omega)]
  congr 2
  rw [List.drop_append, l, List.drop_of_length_le (by omega), List.nil_append, show s + 1 - s = 1 by omega]; rfl
theorem vari_inj {cs : List Nat} {s c d : Nat} (h : vari cs s c = vari cs s d) : c = d := by
  unfold vari at h
  have := List.append_cancel_left h
  simpa using this
def LowL (cs : List Nat) : Prop := ∀ c ∈ cs, 97 ≤ c ∧ c ≤ 122
theorem vari_low {cs : List Nat} {s c : Nat} (h : LowL cs) (hc : 97 ≤ c ∧ c ≤ 122) : LowL (vari cs s c) := fun d hd => by
  unfold vari at hd
  rcases List.mem_append.mp hd with h1 | h1
  · exact h d (List.mem_of_mem_take h1)
  · rcases List.mem_append.mp h1 with h2 | h2
    · rw [List.mem_singleton.mp h2]; exact hc
    · exact h d (List.mem_of_mem_drop h2)
theorem tx_name {cs : List Nat} (h : LowL cs) (h1 : 1 ≤ cs.length) (h8 : cs.length ≤ 8) : nameS (tx cs) = true := by
  unfold nameS
  rw [tx_len, tx_list, decide_eq_true h1, decide_eq_true h8, Bool.true_and, Bool.true_and, List.all_eq_true]
  intro c hc
  unfold lowC
  rw [decide_eq_true (h c hc).1, decide_eq_true (h c hc).2]; rfl
theorem many {zs : List Str} {cs : List Nat} {s : Nat} (h : ∀ i, i < 25 → tx (vari cs s (97 + i)) ∈ zs) : 25 ≤ zs.length := by
  have nd : ((List.range 25).map fun i => tx (vari cs s (97 + i))).Nodup := by
    unfold List.Nodup
    rw [List.pairwise_map]
    refine List.Pairwise.imp_of_mem ?_ List.pairwise_lt_range
    intro a b _ _ hab e
    have := vari_inj (tx_inj e)
    omega
  have le := List.Nodup.length_le_of_subset nd (l₂ := zs) fun x hx => by
    obtain ⟨i, hi, rfl⟩ := List.mem_map.mp hx
    exact h i (List.mem_range.mp hi)
  rw [List.length_map, List.length_range] at le
  exact le
/-- a test, both ways to one end -/
theorem ifs_both {c : TT} {t u : TS} {D : Ends} {σ : L2.St} {H : Hp} (Pv : L2.St → Hp → Prop) (h : ∀ Dn : Ends, (∀ σ' H', Pv σ' H' → Dn.nx σ' H') → tIfS c t u Dn σ H) (h2 : ∀ σ' H', Pv σ' H' → D.nx σ' H') : tIfS c t u D σ H := h D h2
theorem lcRgN {ta : TA} {g : TG} {tt : TT} {te : TE} {vs : List Nat} {σ : L2.St} {H : Hp} {Q : VK} (m : Nat) (hm : m ≤ 100000) (Pv : Addr → Nat → Hp → Prop) (ht : ∀ R : List V → Hp → Prop, R [.int (m : Nat)] H → ta σ H R) (h0 : ∀ o, H o = none → Pv o 0 (upd H o (.lst [])))
    (step : ∀ o i H', H o = none → i < m → Pv o i H' → g (.int (i : Nat)) (wipe σ vs) H' fun σ2 H2 => wipe σ2 vs = wipe σ vs ∧ tt σ2 H2 fun b H3 => if b = true then te σ2 H3 fun y H4 => ∃ acc, H4 o = some (.lst acc) ∧ acc.length < sizeLine ∧ Pv o (i + 1) (upd H4 o (.lst (acc ++ [y]))) else Pv o (i + 1) H3)
    (fin : ∀ o H', H o = none → Pv o m H' → Q (.ref o) H') : tLc (iRng1 ta) g tt te vs σ H Q :=
  ht _ ⟨(m : Nat), rfl, by omega, by omega, fun o no => lc_range (Pv o) (h0 o no) (fun i H' hi p => by rw [Int.zero_add]; exact step o i H' no (by omega) p) fun H' p => fin o H' no (by rw [Int.toNat_natCast] at p; exact p)⟩
theorem sum_ones : ∀ cs : List Nat, ((cs.map fun c => tx [c]).map fun z => z.length).sum = cs.length
  | [] => rfl
  | c :: r => by
    show (tx [c]).length + ((r.map fun c => tx [c]).map fun z => z.length).sum = r.length + 1
    rw [sum_ones r, tx_len]
    show 1 + r.length = _
    omega
theorem inV_str {z : Str} : ∀ {ks : List Str}, inV (.str z) (ks.map V.str) = decide (z ∈ ks)
  | [] => rfl
  | k :: ks => by
    have e : inV (.str z) ((k :: ks).map V.str) = ((k == z) || inV (.str z) (ks.map V.str)) := rfl
    rw [e, inV_str (ks := ks)]
    by_cases h : k = z
    · rw [h, beq_self_eq_true, Bool.true_or, decide_eq_true List.mem_cons_self]
    · rw [beq_eq_false_iff_ne.mpr h, Bool.false_or]
      refine decide_eq_decide.mpr ⟨fun q => List.mem_cons_of_mem _ q, fun q => ?_⟩
      rcases List.mem_cons.mp q with q | q
      · exact absurd q.symm h
      · exact q
theorem flat_strs {ks : List Str} : (ks.map V.str).all flatV = true := by
  rw [List.all_map, List.all_eq_true]
  intro _ _; rfl
theorem lets_at : ∀ i : Nat, i < 26 → lets.cps.toList[i]? = some (97 + i) := by decide +kernel
end My

set_option Elab.async false
set_option linter.all false
set_option maxRecDepth 100000
set_option maxHeartbeats 4000000
namespace My
open PySem L2 NdefX
abbrev s_law_names : Stmt := top 22
theorem sc_law_names : FnScope ["_law_script", "_law_at", "_law_many", "_law_letters", "_law_spots", "_law_found", "_law_k", "_law_row", "_law_word", "_law_j", "_law_spot", "_law_letter"] ["_law_script", "_law_at", "_law_many"] (defScope s_law_names) := ⟨rfl, rfl, rfl, by decide +kernel, rfl, by decide +kernel, by decide +kernel⟩
structure BtN (mg : Str → Option Value) : Prop where
  b_int : mg "int" = none
  b_len : mg "len" = none
  b_range : mg "range" = none
def bsN (n : Nat) : List Int := [3, 8] ++ (List.replicate n [8, 26, 26, 26]).flatten
theorem bsN_len {n : Nat} : (bsN n).length = 2 + 4 * n := by
  unfold bsN
  simp; omega
theorem bsN_ok {n : Nat} : ∀ b ∈ bsN n, 1 ≤ b ∧ b ≤ 1000000000000 := by
  intro b hb
  unfold bsN at hb
  rcases List.mem_append.mp hb with h | h
  · rcases List.mem_cons.mp h with rfl | h
    · decide
    · rcases List.mem_cons.mp h with rfl | h
      · decide
      · cases h
  · obtain ⟨l, hl, hb⟩ := List.mem_flatten.mp h
    rw [(List.mem_replicate.mp hl).2] at hb
    simp at hb
    rcases hb with rfl | rfl <;> decide
theorem fl_at {n : Nat} : ∀ {k j : Nat} {b : Int}, k < n → ([8, 26, 26, 26] : List Int)[j]? = some b → (List.replicate n ([8, 26, 26, 26] : List Int)).flatten[4 * k + j]? = some b := by
  induction n with
  | zero => intro k j b h; omega
  | succ n ih =>
    intro k j b hk hj
    have hj4 : j < 4 := (List.getElem?_eq_some_iff.mp hj).1
    rw [List.replicate_succ, List.flatten_cons]
    cases k with
    | zero => rw [Nat.mul_zero, Nat.zero_add, List.getElem?_append_left hj4]; exact hj
    | succ k =>
      rw [List.getElem?_append_right (by show 4 ≤ _; omega), show 4 * (k + 1) + j - ([8, 26, 26, 26] : List Int).length = 4 * k + j by show 4 * (k + 1) + j - 4 = _; omega]
      exact ih (by omega) hj
theorem bsN_at {n k j : Nat} {b : Int} (hk : k < n) (hj : ([8, 26, 26, 26] : List Int)[j]? = some b) : (bsN n)[2 + 4 * k + j]? = some b := by
  unfold bsN
  rw [List.getElem?_append_right (by show 2 ≤ _; omega), show 2 + 4 * k + j - ([3, 8] : List Int).length = 4 * k + j by show 2 + 4 * k + j - 2 = _; omega]
  exact fl_at hk hj
/-- four drawn numbers of the k-th name -/
theorem draw4 {n k : Nat} {ds : List Int} (h : DrawOk (bsN n) ds) (hk : k < n) : ∃ w x y v : Int, (ds.drop (2 + 4 * k)).take 4 = [w, x, y, v] ∧ (0 ≤ w ∧ w < 8) ∧ (0 ≤ x ∧ x < 26) ∧ (0 ≤ y ∧ y < 26) ∧ (0 ≤ v ∧ v < 26) := by
  have len : ds.length = 2 + 4 * n := by rw [h.1, bsN_len]
  have at_ : ∀ j b, ([8, 26, 26, 26] : List Int)[j]? = some b → ∃ d, ds[2 + 4 * k + j]? = some d ∧ 0 ≤ d ∧ d < b := fun j b e => by
    have hj4 : j < 4 := (List.getElem?_eq_some_iff.mp e).1
    have lt : 2 + 4 * k + j < ds.length := by omega
    exact ⟨ds[2 + 4 * k + j], List.getElem?_eq_getElem lt, h.2 _ _ b (List.getElem?_eq_getElem lt) (bsN_at hk e)⟩
  obtain ⟨w, e0, b0⟩ := at_ 0 8 rfl
  obtain ⟨x, e1, b1⟩ := at_ 1 26 rfl
  obtain ⟨y, e2, b2⟩ := at_ 2 26 rfl
  obtain ⟨v, e3, b3⟩ := at_ 3 26 rfl
  refine ⟨w, x, y, v, ?_, b0, b1, b2, b3⟩
  refine List.ext_getElem? fun i => ?_
  rw [List.getElem?_take]
  rcases (show i = 0 ∨ i = 1 ∨ i = 2 ∨ i = 3 ∨ 4 ≤ i by omega) with rfl | rfl | rfl | rfl | h4
  · rw [if_pos (by decide), List.getElem?_drop]; exact e0
  · rw [if_pos (by decide), List.getElem?_drop]; exact e1
  · rw [if_pos (by decide), List.getElem?_drop]; exact e2
  · rw [if_pos (by decide), List.getElem?_drop]; exact e3
  · rw [if_neg (by omega), List.getElem?_eq_none (by show 4 ≤ i; exact h4)]
theorem forRg {ta : TA} {g : TG} {tb : TS} {D : Ends} {σ : L2.St} {H : Hp} (m : Nat) (Pv : Nat → L2.St → Hp → Prop) (ht : ∀ R : List V → Hp → Prop, R [.int (m : Nat)] H → ta σ H R) (h1 : -(2 ^ 62) ≤ (m : Int)) (h2 : (m : Int) < 2 ^ 62) (h0 : Pv 0 σ H)
    (step : ∀ j σ H, j < m → Pv j σ H → g (.int (j : Nat)) σ H fun σ2 H2 => tb { D with nx := Pv (j + 1), ct := Pv (j + 1), bk := D.nx } σ2 H2) (fin : ∀ σ H, Pv m σ H → D.nx σ H) : tFor (iRng1 ta) g tb D σ H :=
  ht _ ⟨m, rfl, h1, h2, for_range Pv h0 (fun i σ' H' hi p => by rw [Int.zero_add]; exact step i σ' H' (by omega) p) (by rw [Int.toNat_natCast]; exact fin)⟩
section
variable {P : Program} {w : World} {K : PySem.W.Frag} {mg : Str → Option Value} {base : Heap}
def spNames (K : PySem.W.Frag) : Sp := fun vs H Q _ => ∃ (a : Addr) (at_ n : Nat) (ns : List Int), vs = [.ref a, .int (at_ : Nat), .int (n : Nat)] ∧ Scr K H a ns ∧ at_ ≤ 1000 ∧ 1 ≤ n ∧ n ≤ 20 ∧
  ∀ (r : Addr) (zs : List Str) (H' : Hp), H r = none → H' r = some (.lst (zs.map V.str)) → zs.length = n → (∀ z ∈ zs, nameS z = true) → zs.Nodup → Kp [] H H' → Q (.ref r) H'
theorem ok_law_names {f : Addr} {fd : FuncData} (D : Df K mg "_law_names" s_law_names ["_law_script", "_law_at", "_law_many"] f fd) (T : BtN mg) {fg : Addr} {fdg : FuncData} (D_law_draws : Df K mg "_law_draws" s_law_draws ["_law_script", "_law_at", "_law_bounds"] fg fdg) (G_law_draws : FnOk P w K mg base CX0 2 fg fdg ["_law_script", "_law_at", "_law_bounds"] (spDraws K)) : FnOk P w K mg base CX0 3 f fd ["_law_script", "_law_at", "_law_many"] (spNames K) := by
  refine D.F.ok sc_law_names (fun vs H Q E h => ?_) (fun cdv A outer s H vs Q E hr h => ?_)
  · obtain ⟨a, at_, n, ns, rfl, _⟩ := h
    rfl
  · obtain ⟨a, at_, n, ns, rfl, hS, a1, n1, n2, q⟩ := h
    have hu := hu_of hr
    refine ⟨_, (pss_cons (ps_set (i := 3) sc_law_names.nd rfl (Or.inr rfl) pe_str)
      (pss_cons (ps_set (i := 4) sc_law_names.nd rfl (Or.inl rfl) (pe_call G_law_draws (hr.mono (by decide)) rfl D_law_draws.g D_law_draws.F.kp D_law_draws.b .nil pass0 (pa_cons (pv 0) (pa_cons (pv 1) (pa_cons (pe_op op_cat (pe_lst (pa_cons pe_int (pa_cons pe_int pa_nil))) (pe_op op_rep (pe_lst (pa_cons pe_int (pa_cons pe_int (pa_cons pe_int (pa_cons pe_int pa_nil))))) (pv 2))) pa_nil)))))
      (pss_cons (ps_set (i := 5) sc_law_names.nd rfl (Or.inl rfl) (pe_lst pa_nil))
      (pss_cons (ps_for PassesOwn.never rfl (pi_range1 rfl T.b_range (pa_cons (pv 2) pa_nil)) (pg_name (i := 6) sc_law_names.nd rfl (Or.inl rfl)) (pss_cons (ps_set (i := 7) sc_law_names.nd rfl (Or.inr rfl) (pe_slice sl_list (pv 4) (po_some (pe_op op_add pe_int (pe_op op_mul pe_int (pv 6)))) (po_some (pe_op op_add pe_int (pe_op op_mul pe_int (pv 6))))))
      (pss_cons (ps_if (pt_cmpR op_eq (pe_ix (r := rIxL K) ix_list (pv 4) pe_int (fun _ _ => rfl)) pe_int (nomark _)) (pss_one (ps_set (i := 7) sc_law_names.nd rfl (Or.inr rfl) (pe_slice sl_list (pv 4) (po_some pe_int) (po_some pe_int)))) pss_nil)
      (pss_cons (ps_set (i := 8) sc_law_names.nd rfl (Or.inl rfl) (pe_join pe_str (pe_lc (own := [("_law_j", 9)]) (g := (gName 9)) (tt := tYes) rfl sc_law_names.nd (pi_range1 rfl T.b_range (pa_cons (pe_op op_add (pe_ix (r := rIxL K) ix_list (pv 7) pe_int (fun _ _ => rfl)) pe_int) pa_nil)) (blkOk_by (N := ["_law_script", "_law_at", "_law_many", "_law_letters", "_law_spots", "_law_found", "_law_k", "_law_row", "_law_word", "_law_j", "_law_spot", "_law_letter"]) (sc := defScope s_law_names) (by decide +kernel)) (fun _ _ _ _ _ => (pg_name (i := 9) sc_law_names.nd rfl (Or.inl rfl))) (fun _ _ _ _ _ => pts_nil) (fun _ _ _ _ _ => (pe_ix ix_str (pv 3) (pe_ix (r := rIxL K) ix_list (pv 7) (pe_op op_add pe_int (pe_op op_mod (pe_callTy (T := "int") call_int1 (by rfl) T.b_int (by decide +kernel) (pa_cons (pv 9) pa_nil)) pe_int)) (fun _ _ => rfl)) (fun _ _ => rfl))))))
      (pss_cons (ps_set (i := 10) sc_law_names.nd rfl (Or.inl rfl) (pe_op op_mod (pe_callTy (T := "int") call_int1 (by rfl) T.b_int (by decide +kernel) (pa_cons (pe_ix (r := rIxL K) ix_list (pv 4) pe_int (fun _ _ => rfl)) pa_nil)) (pe_callB (id := "len") call_len_str (by rfl) T.b_len PySem.boot_len (pa_cons (pv 8) pa_nil))))
      (pss_cons (ps_for PassesOwn.never rfl (pi_str (pv 3)) (pg_name (i := 11) sc_law_names.nd rfl (Or.inl rfl)) (pss_one (ps_if (pt_cmpR op_in_seq (pv 8) (pv 5) (by rfl)) (pss_one (ps_set (i := 8) sc_law_names.nd rfl (Or.inl rfl) (pe_op op_add_str (pe_op op_add_str (pe_slice sl_str (pv 8) po_none (po_some (pv 10))) (pv 11)) (pe_slice sl_str (pv 8) (po_some (pe_op op_add (pv 10) pe_int)) po_none)))) pss_nil)))
      (pss_one (ps_expr (pe_bm PySem.F.plainAttrs_list PySem.F.slot_list_append PySem.F.type_list_append mt_append (pv 5) (pa_cons (pv 8) pa_nil))))))))))
      (pss_one (ps_ret (pv 5))))))), ?_⟩
    try simp only [tSeq, tIfS, tTest, tOp, tUn, tCB, tCons, tNil, tVar, tC, rI0, rI, rU, rEq, rNe, tRet, tRetN, tAsg, gName, gSub, tBM, tBM0, tNext, tB, tNot, tAnd, tOr, tIf, tCall, tDrop, tBreak, tCont, L2.start, tDGet, sDPut, tTup, tLst, tDNewK, tRevL, rCat, rAppend, rPop, rSetL, tAndV, tOrV, tNotV, tSl, tPart, tNoPart, tM1, gTup, gCons, gNil, cxK, cxnK, List.map_cons, List.map_nil, List.length_cons, List.length_nil, List.replicate, List.cons_append, List.nil_append, List.append_nil, List.set_cons_zero, List.set_cons_succ, List.getElem?_cons_zero, List.getElem?_cons_succ, Option.some.injEq, V.ref.injEq, V.int.injEq, V.str.injEq, V.bl.injEq, V.ty.injEq, exists_eq_left', exists_eq_left, exists_and_left, List.cons.injEq, and_true, true_and, sc_ii, sc_ss, sc_bb, sc_ni, sc_in, sc_is, sc_si, sc_nn, decide_true, decide_false, reduceCtorEq, Bool.false_eq_true, if_true, if_false, ite_true, ite_false, exists_const, eq_self, false_and, and_false, or_false, false_or, exists_false, Evl.rLenS, rSum, wipe, tYes, exists_eq, exists_eq', rIxL, rIxT, rIxS, exists_and_right, gt_iff_lt, not_true_eq_false, not_false_eq_true, Bool.not_true, Bool.not_false, decide_eq_true_eq, Nat.reduceSub, Nat.reduceAdd, List.append_assoc, tChain, tDIn, tDNotIn, sDDel, tAug, ipI, rRep]
    refine ⟨by decide, fun p np => ⟨by decide, fun p1 np1 => ⟨_, upd_same, by omega, by omega, ?_, fun p2 np2 => ?_⟩⟩⟩
    · rw [Int.toNat_natCast]
      have := (smallL (n := 4 * n) (by omega))
      show 4 * n ≤ sizeLine
      omega
    rw [Int.toNat_natCast]
    have k1 : Kp [] H (upd H p (.lst [.int 3, .int 8])) := Kp.new np
    have k2 := k1.trans (Kp.new np1 (o := .lst [.int 8, .int 26, .int 26, .int 26]))
    have hp : (upd (upd H p (.lst [.int 3, .int 8])) p1 (.lst [.int 8, .int 26, .int 26, .int 26])) p = some (.lst [.int 3, .int 8]) := by rw [upd_ne (ne_of_none upd_same np1)]; exact upd_same
    generalize (upd (upd H p (.lst [.int 3, .int 8])) p1 (.lst [.int 8, .int 26, .int 26, .int 26])) = H2 at k2 hp np2 ⊢
    refine ⟨_, by rw [upd_ne (ne_of_none hp np2)]; exact hp, _, upd_same, ?_, fun p3 np3 => ?_⟩
    · have := (smallL (n := 4 * n + 2) (by omega))
      simp
      omega
    have k3 := k2.trans (Kp.new np2 (o := .lst (List.replicate n [V.int 8, .int 26, .int 26, .int 26]).flatten))
    have k4 := k3.trans (Kp.new np3 (o := .lst ([V.int 3, .int 8] ++ (List.replicate n [V.int 8, .int 26, .int 26, .int 26]).flatten)))
    have bsV : [V.int 3, .int 8] ++ (List.replicate n [V.int 8, .int 26, .int 26, .int 26]).flatten = (bsN n).map V.int := by
      unfold bsN
      rw [List.map_append, List.map_flatten, List.map_replicate]; rfl
    rw [bsV] at k4 ⊢
    refine ⟨a, p3, at_, ns, bsN n, rfl, ⟨k4.trans (Kp.refl _ _) |>.ls not0 hS.1, hS.2⟩, a1, upd_same, by rw [bsN_len]; omega, bsN_ok, fun s ds H5 ns5 hs hd k5 => ?_⟩
    generalize (upd (upd H2 p2 (.lst (List.replicate n [V.int 8, .int 26, .int 26, .int 26]).flatten)) p3 (.lst ((bsN n).map V.int))) = H4 at k4 ns5 k5 ⊢
    refine ⟨Nat.zero_le _, fun f nf => ?_⟩
    have k6 : Kp [] H (upd H5 f (.lst [])) := (k4.trans k5).trans (Kp.new nf)
    have nf0 : H f = none := (k4.trans k5).free0 nf
    refine forRg n (fun j σ H' => ∃ (c6 c7 c8 c9 c10 c11 : Option V) (zs : List Str), σ = [some (.ref a), some (.int (at_ : Nat)), some (.int (n : Nat)), some (.str lets), some (.ref s), some (.ref f), c6, c7, c8, c9, c10, c11] ∧ H' f = some (.lst (zs.map V.str)) ∧ zs.length = j ∧ (∀ z ∈ zs, nameS z = true) ∧ zs.Nodup ∧ Kp [] H5 H' ∧ Kp [] H H') ?_ (by omega) (by omega) ?_ ?_ ?_
    · intro R q
      exact ⟨_, rfl, q⟩
    · exact ⟨none, none, none, none, none, none, [], rfl, upd_same, rfl, (fun z h => nomatch h), List.nodup_nil, Kp.new nf, k6⟩
    · intro j σ H6 hj h6
      obtain ⟨c6, c7, c8, c9, c10, c11, zs, rfl, hf, hl, hn, nd, k7, k8⟩ := h6
      have hs6 := k7 _ _ not0 hs
      try simp only [tSeq, tTest, tOp, tUn, tCB, tCons, tNil, tVar, tC, rI0, rI, rU, rEq, rNe, tRet, tRetN, tAsg, gName, gSub, tBM, tBM0, tNext, tB, tNot, tAnd, tOr, tIf, tCall, tDrop, tBreak, tCont, L2.start, tDGet, sDPut, tTup, tLst, tDNewK, tRevL, rCat, rAppend, rPop, rSetL, tAndV, tOrV, tNotV, tSl, tPart, tNoPart, tM1, gTup, gCons, gNil, cxK, cxnK, List.map_cons, List.map_nil, List.length_cons, List.length_nil, List.replicate, List.cons_append, List.nil_append, List.append_nil, List.set_cons_zero, List.set_cons_succ, List.getElem?_cons_zero, List.getElem?_cons_succ, Option.some.injEq, V.ref.injEq, V.int.injEq, V.str.injEq, V.bl.injEq, V.ty.injEq, exists_eq_left', exists_eq_left, exists_and_left, List.cons.injEq, and_true, true_and, sc_ii, sc_ss, sc_bb, sc_ni, sc_in, sc_is, sc_si, sc_nn, decide_true, decide_false, reduceCtorEq, Bool.false_eq_true, if_true, if_false, ite_true, ite_false, exists_const, eq_self, false_and, and_false, or_false, false_or, exists_false, Evl.rLenS, rSum, wipe, tYes, exists_eq, exists_eq', rIxL, rIxT, rIxS, exists_and_right, gt_iff_lt, not_true_eq_false, not_false_eq_true, Bool.not_true, Bool.not_false, decide_eq_true_eq, Nat.reduceSub, Nat.reduceAdd, List.append_assoc, tChain, tDIn, tDNotIn, sDDel, tAug, ipI]
      refine ⟨.inl ⟨by decide, by decide⟩, .inl ⟨by decide, by decide⟩, s, _, rfl, sq_l hs6, fun R nR => ?_⟩
      have kR : Kp [] H6 (upd H6 R (.lst (cutV (ds.map V.int) (some (2 + 4 * (j : Int))) (some (6 + 4 * (j : Int)))))) := Kp.new nR
      have cut4 : ∀ k : Nat, cutV (ds.map V.int) (some ((2 + 4 * k : Nat) : Int)) (some ((6 + 4 * k : Nat) : Int)) = ((ds.drop (2 + 4 * k)).take 4).map V.int := by
        intro k
        unfold cutV
        rw [HT.sIx_nat, HT.sIx_nat, List.length_map, ← List.map_drop, ← List.map_take]
        congr 1
        rcases Nat.le_total (2 + 4 * k) ds.length with z | z
        · rw [Nat.min_eq_left z]
          rcases Nat.le_total (6 + 4 * k) ds.length with z2 | z2
          · rw [Nat.min_eq_left z2, show 6 + 4 * k - (2 + 4 * k) = 4 by omega]
          · rw [Nat.min_eq_right z2, List.take_of_length_le (by rw [List.length_drop]; omega), List.take_of_length_le (by rw [List.length_drop]; omega)]
        · rw [Nat.min_eq_right z, List.drop_length, List.drop_of_length_le z]; simp
      have eR : (upd H6 R (.lst (cutV (ds.map V.int) (some (2 + 4 * (j : Int))) (some (6 + 4 * (j : Int)))))) R = some (.lst (((ds.drop (2 + 4 * j)).take 4).map V.int)) := by
        rw [upd_same]
        have := cut4 j
        rw [show ((2 + 4 * j : Nat) : Int) = 2 + 4 * (j : Int) by omega, show ((6 + 4 * j : Nat) : Int) = 6 + 4 * (j : Int) by omega] at this
        rw [this]
      generalize (upd H6 R (.lst (cutV (ds.map V.int) (some (2 + 4 * (j : Int))) (some (6 + 4 * (j : Int)))))) = H7 at kR eR ⊢
      have dlen : ds.length = 2 + 4 * n := by rw [hd.1, bsN_len]
      refine ifs_both (fun σ' H' => ∃ (R : Addr) (w x y v : Int), σ' = [some (.ref a), some (.int (at_ : Nat)), some (.int (n : Nat)), some (.str lets), some (.ref s), some (.ref f), some (.int (j : Nat)), some (.ref R), c8, c9, c10, c11] ∧ H' R = some (.lst [.int w, .int x, .int y, .int v]) ∧ (0 ≤ w ∧ w < 8) ∧ (0 ≤ x ∧ x < 26) ∧ (0 ≤ y ∧ y < 26) ∧ (0 ≤ v ∧ v < 26) ∧ Kp [] H6 H') (fun Dn q2 => ?_) ?_
      · have hs7 := kR _ _ not0 hs6
        obtain ⟨d0, e0⟩ : ∃ d, ds[0]? = some d := ⟨ds[0]'(by omega), List.getElem?_eq_getElem _⟩
        have e0' : (ds.map V.int)[0]? = some (.int d0) := by rw [List.getElem?_map, e0]; rfl
        try simp only [tSeq, tIfS, tTest, tOp, tUn, tCB, tCons, tNil, tVar, tC, rI0, rI, rU, rEq, rNe, tRet, tRetN, tAsg, gName, gSub, tBM, tBM0, tNext, tB, tNot, tAnd, tOr, tIf, tCall, tDrop, tBreak, tCont, L2.start, tDGet, sDPut, tTup, tLst, tDNewK, tRevL, rCat, rAppend, rPop, rSetL, tAndV, tOrV, tNotV, tSl, tPart, tNoPart, tM1, gTup, gCons, gNil, cxK, cxnK, List.map_cons, List.map_nil, List.length_cons, List.length_nil, List.replicate, List.cons_append, List.nil_append, List.append_nil, List.set_cons_zero, List.set_cons_succ, List.getElem?_cons_zero, List.getElem?_cons_succ, Option.some.injEq, V.ref.injEq, V.int.injEq, V.str.injEq, V.bl.injEq, V.ty.injEq, exists_eq_left', exists_eq_left, exists_and_left, List.cons.injEq, and_true, true_and, sc_ii, sc_ss, sc_bb, sc_ni, sc_in, sc_is, sc_si, sc_nn, decide_true, decide_false, reduceCtorEq, Bool.false_eq_true, if_true, if_false, ite_true, ite_false, exists_const, eq_self, false_and, and_false, or_false, false_or, exists_false, Evl.rLenS, rSum, wipe, tYes, exists_eq, exists_eq', rIxL, rIxT, rIxS, exists_and_right, gt_iff_lt, not_true_eq_false, not_false_eq_true, Bool.not_true, Bool.not_false, decide_eq_true_eq, Nat.reduceSub, Nat.reduceAdd, List.append_assoc, tChain, tDIn, tDNotIn, sDDel, tAug, ipI]
        refine ⟨_, sq_l hs7, .int d0, atI_of (by decide) e0', ?_⟩
        try simp only [tSeq, tIfS, tTest, tOp, tUn, tCB, tCons, tNil, tVar, tC, rI0, rI, rU, rEq, rNe, tRet, tRetN, tAsg, gName, gSub, tBM, tBM0, tNext, tB, tNot, tAnd, tOr, tIf, tCall, tDrop, tBreak, tCont, L2.start, tDGet, sDPut, tTup, tLst, tDNewK, tRevL, rCat, rAppend, rPop, rSetL, tAndV, tOrV, tNotV, tSl, tPart, tNoPart, tM1, gTup, gCons, gNil, cxK, cxnK, List.map_cons, List.map_nil, List.length_cons, List.length_nil, List.replicate, List.cons_append, List.nil_append, List.append_nil, List.set_cons_zero, List.set_cons_succ, List.getElem?_cons_zero, List.getElem?_cons_succ, Option.some.injEq, V.ref.injEq, V.int.injEq, V.str.injEq, V.bl.injEq, V.ty.injEq, exists_eq_left', exists_eq_left, exists_and_left, List.cons.injEq, and_true, true_and, sc_ii, sc_ss, sc_bb, sc_ni, sc_in, sc_is, sc_si, sc_nn, decide_true, decide_false, reduceCtorEq, Bool.false_eq_true, if_true, if_false, ite_true, ite_false, exists_const, eq_self, false_and, and_false, or_false, false_or, exists_false, Evl.rLenS, rSum, wipe, tYes, exists_eq, exists_eq', rIxL, rIxT, rIxS, exists_and_right, gt_iff_lt, not_true_eq_false, not_false_eq_true, Bool.not_true, Bool.not_false, decide_eq_true_eq, Nat.reduceSub, Nat.reduceAdd, List.append_assoc, tChain, tDIn, tDNotIn, sDDel, tAug, ipI]
        refine ite2 (fun h1 => ?_) (fun h1 => ?_)
        · refine ⟨s, _, rfl, sq_l hs7, fun R2 nR2 => q2 _ _ ?_⟩
          obtain ⟨w, x, y, v, e4, b⟩ := draw4 hd (k := 0) (by omega)
          refine ⟨R2, w, x, y, v, rfl, ?_, b.1, b.2.1, b.2.2.1, b.2.2.2, kR.trans (Kp.new nR2)⟩
          rw [upd_same]
          have := cut4 0
          rw [e4] at this
          exact congrArg (fun l => some (HO.lst l)) this
        · obtain ⟨w, x, y, v, e4, b⟩ := draw4 hd hj
          refine q2 _ _ ⟨R, w, x, y, v, rfl, ?_, b.1, b.2.1, b.2.2.1, b.2.2.2, kR⟩
          rw [eR, e4]; rfl
      clear eR kR nR
      clear R H7
      rintro σ H7 ⟨R, w, x, y, v, rfl, hR, w0, x0, y0, v0, k67⟩
      try simp only [tSeq, tTest, tOp, tUn, tCB, tCons, tNil, tVar, tC, rI0, rI, rU, rEq, rNe, tRet, tRetN, tAsg, gName, gSub, tBM, tBM0, tNext, tB, tNot, tAnd, tOr, tIf, tCall, tDrop, tBreak, tCont, L2.start, tDGet, sDPut, tTup, tLst, tDNewK, tRevL, rCat, rAppend, rPop, rSetL, tAndV, tOrV, tNotV, tSl, tPart, tNoPart, tM1, gTup, gCons, gNil, cxK, cxnK, List.map_cons, List.map_nil, List.length_cons, List.length_nil, List.replicate, List.cons_append, List.nil_append, List.append_nil, List.set_cons_zero, List.set_cons_succ, List.getElem?_cons_zero, List.getElem?_cons_succ, Option.some.injEq, V.ref.injEq, V.int.injEq, V.str.injEq, V.bl.injEq, V.ty.injEq, exists_eq_left', exists_eq_left, exists_and_left, List.cons.injEq, and_true, true_and, sc_ii, sc_ss, sc_bb, sc_ni, sc_in, sc_is, sc_si, sc_nn, decide_true, decide_false, reduceCtorEq, Bool.false_eq_true, if_true, if_false, ite_true, ite_false, exists_const, eq_self, false_and, and_false, or_false, false_or, exists_false, Evl.rLenS, rSum, wipe, tYes, exists_eq, exists_eq', rIxL, rIxT, rIxS, exists_and_right, gt_iff_lt, not_true_eq_false, not_false_eq_true, Bool.not_true, Bool.not_false, decide_eq_true_eq, Nat.reduceSub, Nat.reduceAdd, List.append_assoc, tChain, tDIn, tDNotIn, sDDel, tAug, ipI]
      have w1 : (w + 1).toNat = w.toNat + 1 := by omega
      have hs7 := k67 _ _ not0 hs6
      obtain ⟨d1, e1⟩ : ∃ d, ds[1]? = some d := ⟨ds[1]'(by omega), List.getElem?_eq_getElem _⟩
      have e1' : (ds.map V.int)[1]? = some (.int d1) := by rw [List.getElem?_map, e1]; rfl
      refine lcRgN (w.toNat + 1) (by omega) (fun D i H' => ∃ cs, H' D = some (.lst ((cs.map fun c => tx [c]).map V.str)) ∧ cs.length = i ∧ LowL cs ∧ Kp [] H7 H') ?_ ?_ ?_ ?_
      · intro R' q'
        have ew : w + 1 = ((w.toNat + 1 : Nat) : Int) := by omega
        rw [← ew] at q'
        try simp only [tSeq, tIfS, tTest, tOp, tUn, tCB, tCons, tNil, tVar, tC, rI0, rI, rU, rEq, rNe, tRet, tRetN, tAsg, gName, gSub, tBM, tBM0, tNext, tB, tNot, tAnd, tOr, tIf, tCall, tDrop, tBreak, tCont, L2.start, tDGet, sDPut, tTup, tLst, tDNewK, tRevL, rCat, rAppend, rPop, rSetL, tAndV, tOrV, tNotV, tSl, tPart, tNoPart, tM1, gTup, gCons, gNil, cxK, cxnK, List.map_cons, List.map_nil, List.length_cons, List.length_nil, List.replicate, List.cons_append, List.nil_append, List.append_nil, List.set_cons_zero, List.set_cons_succ, List.getElem?_cons_zero, List.getElem?_cons_succ, Option.some.injEq, V.ref.injEq, V.int.injEq, V.str.injEq, V.bl.injEq, V.ty.injEq, exists_eq_left', exists_eq_left, exists_and_left, List.cons.injEq, and_true, true_and, sc_ii, sc_ss, sc_bb, sc_ni, sc_in, sc_is, sc_si, sc_nn, decide_true, decide_false, reduceCtorEq, Bool.false_eq_true, if_true, if_false, ite_true, ite_false, exists_const, eq_self, false_and, and_false, or_false, false_or, exists_false, Evl.rLenS, rSum, wipe, tYes, exists_eq, exists_eq', rIxL, rIxT, rIxS, exists_and_right, gt_iff_lt, not_true_eq_false, not_false_eq_true, Bool.not_true, Bool.not_false, decide_eq_true_eq, Nat.reduceSub, Nat.reduceAdd, List.append_assoc, tChain, tDIn, tDNotIn, sDDel, tAug, ipI]
        exact ⟨_, sq_l hR, .int w, atI_of (by decide) rfl, _, rfl, q'⟩
      · intro D nD
        exact ⟨[], upd_same, rfl, (fun c h => nomatch h), Kp.new nD⟩
      · intro D i H' nD hi hP
        obtain ⟨cs, hD, hlen, low, k7'⟩ := hP
        have hR' := k7' _ _ not0 hR
        try simp only [tSeq, tIfS, tTest, tOp, tUn, tCB, tCons, tNil, tVar, tC, rI0, rI, rU, rEq, rNe, tRet, tRetN, tAsg, gName, gSub, tBM, tBM0, tNext, tB, tNot, tAnd, tOr, tIf, tCall, tDrop, tBreak, tCont, L2.start, tDGet, sDPut, tTup, tLst, tDNewK, tRevL, rCat, rAppend, rPop, rSetL, tAndV, tOrV, tNotV, tSl, tPart, tNoPart, tM1, gTup, gCons, gNil, cxK, cxnK, List.map_cons, List.map_nil, List.length_cons, List.length_nil, List.replicate, List.cons_append, List.nil_append, List.append_nil, List.set_cons_zero, List.set_cons_succ, List.getElem?_cons_zero, List.getElem?_cons_succ, Option.some.injEq, V.ref.injEq, V.int.injEq, V.str.injEq, V.bl.injEq, V.ty.injEq, exists_eq_left', exists_eq_left, exists_and_left, List.cons.injEq, and_true, true_and, sc_ii, sc_ss, sc_bb, sc_ni, sc_in, sc_is, sc_si, sc_nn, decide_true, decide_false, reduceCtorEq, Bool.false_eq_true, if_true, if_false, ite_true, ite_false, exists_const, eq_self, false_and, and_false, or_false, false_or, exists_false, Evl.rLenS, rSum, wipe, tYes, exists_eq, exists_eq', rIxL, rIxT, rIxS, exists_and_right, gt_iff_lt, not_true_eq_false, not_false_eq_true, Bool.not_true, Bool.not_false, decide_eq_true_eq, Nat.reduceSub, Nat.reduceAdd, List.append_assoc, tChain, tDIn, tDNotIn, sDDel, tAug, ipI]
        obtain ⟨u, eu, u0, u1⟩ : ∃ u : Int, atI [V.int w, .int x, .int y, .int v] (1 + (i : Int) % 3) = some (.int u) ∧ 0 ≤ u ∧ u < 26 := by
          rcases (show (i : Int) % 3 = 0 ∨ (i : Int) % 3 = 1 ∨ (i : Int) % 3 = 2 by omega) with e | e | e <;> rw [e]
          · exact ⟨x, rfl, x0⟩
          · exact ⟨y, rfl, y0⟩
          · exact ⟨v, rfl, v0⟩
        have l26 : lets.length ≤ sizeLine := by
          have := smallL (n := 26) (by decide)
          show 26 ≤ _
          omega
        refine ⟨by decide, _, sq_l hR', _, eu, u, rfl, l26, 97 + u.toNat, atI_of u0 (lets_at u.toNat (by omega)), _, hD, smallL (by rw [List.length_map, List.length_map]; omega), cs ++ [97 + u.toNat], by rw [upd_same, List.map_append, List.map_append]; rfl, by rw [List.length_append, hlen]; rfl, fun c hc => ?_, k7'.wr nD⟩
        rcases List.mem_append.mp hc with h | h
        · exact low c h
        · rw [List.mem_singleton.mp h]; omega
      · intro D H8 nD hP
        obtain ⟨cs, hD, hlen, low, k78⟩ := hP
        refine ⟨D, rfl, cs.map fun c => tx [c], .inl (sq_l hD), ?_, _, sq_l (k78 _ _ not0 hs7), _, atI_of (by decide) e1', .inl ⟨d1, rfl, ?_⟩⟩
        · rw [sum_ones, List.length_map]
          show _ + _ * 0 ≤ _
          omega
        have ej : Txt.join (Str.ofString "") (cs.map fun c => tx [c]) = tx cs := join_ones cs
        rw [ej, tx_len]
        refine ⟨?_, by omega, ?_⟩
        · have := (smallL (n := cs.length) (by omega))
          omega
        have d10 := (hd.2 1 d1 8 e1 rfl).1
        have sp0 := Int.emod_nonneg d1 (show ((cs.length : Nat) : Int) ≠ 0 by omega)
        have sp1 := Int.emod_lt_of_pos d1 (show (0 : Int) < (cs.length : Nat) by omega)
        obtain ⟨sp, esp⟩ := Int.eq_ofNat_of_zero_le sp0
        rw [esp] at sp1 ⊢
        have spl : sp < cs.length := by omega
        have k68 := k67.trans k78
        have hf8 := k68 _ _ not0 hf
        have s26 : lets.cps.size = 26 := by decide +kernel
        refine ⟨.str lets, rfl, lets, rfl, for_it (walk_str (z := lets)) (fun i σ H' => ∃ cs' c11', σ = [some (.ref a), some (.int (at_ : Nat)), some (.int (n : Nat)), some (.str lets), some (.ref s), some (.ref f), some (.int (j : Nat)), some (.ref R), some (.str (tx cs')), c9, some (.int (sp : Nat)), c11'] ∧ cs'.length = cs.length ∧ LowL cs' ∧ (∀ c, vari cs' sp c = vari cs sp c) ∧ (tx cs' ∈ zs → (∀ i', i' + 1 < i → tx (vari cs sp (97 + i')) ∈ zs) ∧ (0 < i → cs' = vari cs sp (97 + (i - 1)))) ∧ H' = H8) ⟨cs, c11, rfl, rfl, low, fun _ => rfl, fun _ => ⟨fun i' h => absurd h (by omega), fun h => absurd h (by omega)⟩, rfl⟩ (fun _ _ _ _ _ => True.intro) ?_ ?_⟩
        · rintro i xv σ H9 H10 hi ⟨cs', c11', rfl, hl', low', hv', hin, rfl⟩ ⟨rfl, c, ec, rfl⟩
          have hi26 : i < 26 := by rw [← s26]; exact hi
          have ec' : c = 97 + i := by
            have := lets_at i hi26
            rw [Array.getElem?_toList, ec] at this
            exact Option.some.inj this
          subst ec'
          have sz8 : ∀ {c : List Nat}, c.length ≤ 8 → (tx c).length ≤ sizeLine := fun {c} h => by
            have := (smallL (n := 8) (by decide))
            rw [tx_len]; omega
          have one : ({ cps := #[97 + i] } : Str) = tx [97 + i] := rfl
          try simp only [tSeq, tIfS, tTest, tOp, tUn, tCB, tCons, tNil, tVar, tC, rI0, rI, rU, rEq, rNe, tRet, tRetN, tAsg, gName, gSub, tBM, tBM0, tNext, tB, tNot, tAnd, tOr, tIf, tCall, tDrop, tBreak, tCont, L2.start, tDGet, sDPut, tTup, tLst, tDNewK, tRevL, rCat, rAppend, rPop, rSetL, tAndV, tOrV, tNotV, tSl, tPart, tNoPart, tM1, gTup, gCons, gNil, cxK, cxnK, List.map_cons, List.map_nil, List.length_cons, List.length_nil, List.replicate, List.cons_append, List.nil_append, List.append_nil, List.set_cons_zero, List.set_cons_succ, List.getElem?_cons_zero, List.getElem?_cons_succ, Option.some.injEq, V.ref.injEq, V.int.injEq, V.str.injEq, V.bl.injEq, V.ty.injEq, exists_eq_left', exists_eq_left, exists_and_left, List.cons.injEq, and_true, true_and, sc_ii, sc_ss, sc_bb, sc_ni, sc_in, sc_is, sc_si, sc_nn, decide_true, decide_false, reduceCtorEq, Bool.false_eq_true, if_true, if_false, ite_true, ite_false, exists_const, eq_self, false_and, and_false, or_false, false_or, exists_false, Evl.rLenS, rSum, wipe, tYes, exists_eq, exists_eq', rIxL, rIxT, rIxS, exists_and_right, gt_iff_lt, not_true_eq_false, not_false_eq_true, Bool.not_true, Bool.not_false, decide_eq_true_eq, Nat.reduceSub, Nat.reduceAdd, List.append_assoc, tChain, tDIn, tDNotIn, sDDel, tAug, ipI]
          refine ⟨f, _, rfl, .inl (sq_l hf8), rfl, flat_strs, ?_⟩
          simp only [Bool.false_eq_true, if_false]
          rw [inV_str]
          by_cases hz : tx cs' ∈ zs
          · rw [decide_eq_true hz]
            refine ⟨true, rfl, ?_⟩
            rw [if_pos rfl]
            have lc : cs'.length ≤ 8 := by omega
            refine ⟨tx cs', rfl, sz8 lc, _, rfl, ?_, tx cs', rfl, sz8 lc, _, rfl, ?_, vari cs' sp (97 + i), ?_, by rw [vari_len (by omega)]; exact hl', vari_low low' (by omega), fun c => ?_, fun _ => ⟨fun i' hi' => ?_, fun _ => ?_⟩, rfl⟩
            · have := (smallL (n := 20) (by decide))
              rw [cutTo, one, tx_len, tx_len, List.length_take]
              show _ + 1 ≤ _
              omega
            · have := (smallL (n := 20) (by decide))
              rw [show (sp : Int) + 1 = ((sp + 1 : Nat) : Int) by omega, cutFrom, cutTo, one, tx_app, tx_len, tx_len, List.length_append, List.length_take, List.length_drop]
              show _ + 1 + _ ≤ _
              omega
            · rw [show (sp : Int) + 1 = ((sp + 1 : Nat) : Int) by omega, cutFrom, cutTo, one, tx_app, tx_app, List.append_assoc]; rfl
            · rw [vari_vari (by omega)]; exact hv' c
            · obtain ⟨h1, h2⟩ := hin hz
              by_cases z : i' + 1 < i
              · exact h1 i' z
              · have e : i' = i - 1 := by omega
                rw [e, ← h2 (by omega)]
                exact hz
            · rw [hv']; rfl
          · rw [decide_eq_false hz]
            refine ⟨false, rfl, ?_⟩
            rw [if_neg Bool.false_ne_true]
            exact ⟨cs', rfl, hl', low', hv', fun h => absurd h hz, by first | rfl | trivial⟩
        · rintro σ H9 ⟨cs', c11', rfl, hl', low', hv', hin, rfl⟩
          rw [s26] at hin
          have fresh : tx cs' ∉ zs := fun h => by
            obtain ⟨h1, h2⟩ := hin h
            have := many (zs := zs) (cs := cs) (s := sp) fun i hi => h1 i (by omega)
            omega
          try simp only [tSeq, tIfS, tTest, tOp, tUn, tCB, tCons, tNil, tVar, tC, rI0, rI, rU, rEq, rNe, tRet, tRetN, tAsg, gName, gSub, tBM, tBM0, tNext, tB, tNot, tAnd, tOr, tIf, tCall, tDrop, tBreak, tCont, L2.start, tDGet, sDPut, tTup, tLst, tDNewK, tRevL, rCat, rAppend, rPop, rSetL, tAndV, tOrV, tNotV, tSl, tPart, tNoPart, tM1, gTup, gCons, gNil, cxK, cxnK, List.map_cons, List.map_nil, List.length_cons, List.length_nil, List.replicate, List.cons_append, List.nil_append, List.append_nil, List.set_cons_zero, List.set_cons_succ, List.getElem?_cons_zero, List.getElem?_cons_succ, Option.some.injEq, V.ref.injEq, V.int.injEq, V.str.injEq, V.bl.injEq, V.ty.injEq, exists_eq_left', exists_eq_left, exists_and_left, List.cons.injEq, and_true, true_and, sc_ii, sc_ss, sc_bb, sc_ni, sc_in, sc_is, sc_si, sc_nn, decide_true, decide_false, reduceCtorEq, Bool.false_eq_true, if_true, if_false, ite_true, ite_false, exists_const, eq_self, false_and, and_false, or_false, false_or, exists_false, Evl.rLenS, rSum, wipe, tYes, exists_eq, exists_eq', rIxL, rIxT, rIxS, exists_and_right, gt_iff_lt, not_true_eq_false, not_false_eq_true, Bool.not_true, Bool.not_false, decide_eq_true_eq, Nat.reduceSub, Nat.reduceAdd, List.append_assoc, tChain, tDIn, tDNotIn, sDDel, tAug, ipI]
          have fn : H5 f = none := nf
          refine ⟨.inl ⟨rfl, _, sq_l hf8⟩, _, hf8, smallL (by rw [List.length_map]; omega), zs ++ [tx cs'], by rw [upd_same, List.map_append]; rfl, by rw [List.length_append, hl]; rfl, fun z hz => ?_, ?_, (k7.trans k68).wr fn, (k8.trans k68).wr nf0⟩
          · rcases List.mem_append.mp hz with h | h
            · exact hn z h
            · rw [List.mem_singleton.mp h]; exact tx_name low' (by omega) (by omega)
          · exact List.nodup_append.mpr ⟨nd, by simp, fun x hx y hy e => fresh (by rw [← List.mem_singleton.mp hy, ← e]; exact hx)⟩
    · intro σ H6 h6
      obtain ⟨c6, c7, c8, c9, c10, c11, zs, rfl, hf, hl, hn, nd, k7, k8⟩ := h6
      try simp only [tSeq, tIfS, tTest, tOp, tUn, tCB, tCons, tNil, tVar, tC, rI0, rI, rU, rEq, rNe, tRet, tRetN, tAsg, gName, gSub, tBM, tBM0, tNext, tB, tNot, tAnd, tOr, tIf, tCall, tDrop, tBreak, tCont, L2.start, tDGet, sDPut, tTup, tLst, tDNewK, tRevL, rCat, rAppend, rPop, rSetL, tAndV, tOrV, tNotV, tSl, tPart, tNoPart, tM1, gTup, gCons, gNil, cxK, cxnK, List.map_cons, List.map_nil, List.length_cons, List.length_nil, List.replicate, List.cons_append, List.nil_append, List.append_nil, List.set_cons_zero, List.set_cons_succ, List.getElem?_cons_zero, List.getElem?_cons_succ, Option.some.injEq, V.ref.injEq, V.int.injEq, V.str.injEq, V.bl.injEq, V.ty.injEq, exists_eq_left', exists_eq_left, exists_and_left, List.cons.injEq, and_true, true_and, sc_ii, sc_ss, sc_bb, sc_ni, sc_in, sc_is, sc_si, sc_nn, decide_true, decide_false, reduceCtorEq, Bool.false_eq_true, if_true, if_false, ite_true, ite_false, exists_const, eq_self, false_and, and_false, or_false, false_or, exists_false, Evl.rLenS, rSum, wipe, tYes, exists_eq, exists_eq', rIxL, rIxT, rIxS, exists_and_right, gt_iff_lt, not_true_eq_false, not_false_eq_true, Bool.not_true, Bool.not_false, decide_eq_true_eq, Nat.reduceSub, Nat.reduceAdd, List.append_assoc, tChain, tDIn, tDNotIn, sDDel, tAug, ipI]
      exact q f zs H6 nf0 hf (by omega) hn nd k8
end
end My

set_option Elab.async false
set_option linter.all false
set_option maxRecDepth 100000
set_option maxHeartbeats 4000000
namespace My
open PySem L2 NdefX
abbrev s_law_rows : Stmt := top 23
theorem sc_law_rows : FnScope ["_law_script", "_law_at", "_law_names_here", "_law_size", "_law_most", "_law_spots", "_law_rows_here", "_law_k", "_law_j"] ["_law_script", "_law_at", "_law_names_here", "_law_size", "_law_most"] (defScope s_law_rows) := ⟨rfl, rfl, rfl, by decide +kernel, rfl, by decide +kernel, by decide +kernel⟩
abbrev s_law_is_whole : Stmt := top 24
theorem sc_law_is_whole : FnScope ["_law_told", "_law_due_here"] ["_law_told", "_law_due_here"] (defScope s_law_is_whole) := ⟨rfl, rfl, rfl, by decide +kernel, rfl, by decide +kernel, by decide +kernel⟩
/-- at d a dict of rows of new tuples -/
def RwAt (H : Hp) (d : Addr) (zs : List Str) (m : Nat) (c : Str → Nat → Int × Int) : Prop := ∃ kvs : List (Key × V), H d = some (.dK kvs) ∧ kvs.length = zs.length ∧ ∀ (i : Nat) (z : Str), zs[i]? = some z → ∃ l xs, kvs[i]? = some (Sum.inr z, .ref l) ∧ H l = some (.lst xs) ∧ Cells (c z) xs m H
theorem RwAt.kp {H H' : Hp} {d : Addr} {zs : List Str} {m : Nat} {c : Str → Nat → Int × Int} (h : RwAt H d zs m c) (k : Kp [] H H') : RwAt H' d zs m c := by
  obtain ⟨kvs, hd, hl, hv⟩ := h
  refine ⟨kvs, k _ _ not0 hd, hl, fun i z e => ?_⟩
  obtain ⟨l, xs, a, b, cc⟩ := hv i z e
  exact ⟨l, xs, a, k _ _ not0 b, cc.kp k⟩
theorem RwAt.keys {kvs : List (Key × V)} {zs : List Str} {P : Nat → Str → V → Prop} (hl : kvs.length = zs.length) (h : ∀ (i : Nat) (z : Str), zs[i]? = some z → ∃ v, kvs[i]? = some (Sum.inr z, v) ∧ P i z v) : kvs.map (·.1) = zs.map (fun z => (Sum.inr z : Key)) := by
  refine List.ext_getElem? fun i => ?_
  rw [List.getElem?_map, List.getElem?_map]
  cases e : zs[i]? with
  | none =>
    have : kvs[i]? = none := by
      rw [List.getElem?_eq_none_iff] at e ⊢
      omega
    rw [this]; rfl
  | some z =>
    obtain ⟨v, ev, _⟩ := h i z e
    rw [ev]; rfl
/-- one row more -/
theorem RwAt.put {H H2 : Hp} {d l : Addr} {zs : List Str} {m : Nat} {c : Str → Nat → Int × Int} {z : Str} {xs : List V} (h : RwAt H d zs m c) (k : Kp [] H H2) (hz : z ∉ zs) (hl : H2 l = some (.lst xs)) (hc : Cells (c z) xs m H2) :
    ∃ kvs, H2 d = some (.dK kvs) ∧ kvs.length = zs.length ∧ putK kvs (Sum.inr z) (.ref l) = kvs ++ [(Sum.inr z, .ref l)] ∧ RwAt (upd H2 d (.dK (kvs ++ [(Sum.inr z, .ref l)]))) d (zs ++ [z]) m c := by
  obtain ⟨kvs, hd, hlen, hv⟩ := h
  have hd2 := k _ _ not0 hd
  have kw : Kp [d] H2 (upd H2 d (.dK (kvs ++ [(Sum.inr z, .ref l)]))) := (Kp.refl [d] _).put List.mem_cons_self
  refine ⟨kvs, hd2, hlen, putK_new _ (valV_fresh ?_), _, upd_same, by simp [hlen], fun i y e => ?_⟩
  · rw [RwAt.keys (P := fun _ _ _ => True) hlen fun i z e => by obtain ⟨l, xs, a, _⟩ := hv i z e; exact ⟨_, a, True.intro⟩]
    intro hm
    obtain ⟨z', hz', e⟩ := List.mem_map.mp hm
    cases e
    exact hz hz'
  · rcases Nat.lt_trichotomy i zs.length with w | w | w
    · rw [List.getElem?_append_left w] at e
      obtain ⟨l', xs', a, b, cc⟩ := hv i y e
      have hb := k _ _ not0 b
      exact ⟨l', xs', by rw [List.getElem?_append_left (by omega)]; exact a, kw _ _ (fun m => (dk_no hd2 _ m _).2 hb) hb, (cc.kp k).kpN kw (dk_no hd2)⟩
    · subst w
      rw [List.getElem?_append_right (Nat.le_refl _), Nat.sub_self] at e
      cases e
      exact ⟨l, xs, by rw [← hlen, List.getElem?_append_right (Nat.le_refl _), Nat.sub_self]; rfl, kw _ _ (fun m => (dk_no hd2 _ m _).2 hl) hl, hc.kpN kw (dk_no hd2)⟩
    · rw [List.getElem?_append_right (by omega), List.getElem?_eq_none (by simp; omega)] at e
      cases e
theorem RwAt.get {H : Hp} {d : Addr} {zs : List Str} {m : Nat} {c : Str → Nat → Int × Int} (h : RwAt H d zs m c) (nd : zs.Nodup) {z : Str} (hz : z ∈ zs) : ∃ kvs l xs, H d = some (.dK kvs) ∧ valV kvs (Sum.inr z) = some (.ref l) ∧ H l = some (.lst xs) ∧ Cells (c z) xs m H := by
  obtain ⟨kvs, hd, hlen, hv⟩ := h
  obtain ⟨i, e⟩ := List.getElem?_of_mem hz
  obtain ⟨l, xs, a, b, cc⟩ := hv i z e
  refine ⟨kvs, l, xs, hd, valV_mem ?_ (List.mem_of_getElem? a), b, cc⟩
  rw [RwAt.keys (P := fun _ _ _ => True) hlen fun i z e => by obtain ⟨l, xs, a, _⟩ := hv i z e; exact ⟨_, a, True.intro⟩]
  exact List.Pairwise.map (R := fun a b => a ≠ b) _ (fun a b h e => h (by cases e; rfl)) nd
structure BtW (mg : Str → Option Value) : Prop where
  b_int : mg "int" = none
  b_isinstance : mg "isinstance" = none
  b_bool : mg "bool" = none
structure BtL (mg : Str → Option Value) : Prop where
  b_list : mg "list" = none
/-- the drawn cells -/
def drawnC (zs : List Str) (m : Nat) (ds : List Int) (z : Str) (s : Nat) : Int × Int := (ds.getD (2 * (zs.idxOf z * m + s)) 0, ds.getD (2 * (zs.idxOf z * m + s) + 1) 0)
def CellB (zs : List Str) (m : Nat) (most : Int) (c : Str → Nat → Int × Int) : Prop := ∀ z ∈ zs, ∀ s, s < m → (0 ≤ (c z s).1 ∧ (c z s).1 < most) ∧ 0 ≤ (c z s).2 ∧ (c z s).2 < m
theorem fl2 {n : Nat} {x y : Int} : ∀ {i j : Nat} {b : Int}, i < n → ([x, y] : List Int)[j]? = some b → (List.replicate n ([x, y] : List Int)).flatten[2 * i + j]? = some b := by
  induction n with
  | zero => intro i j b h; omega
  | succ n ih =>
    intro i j b hk hj
    have hj2 : j < 2 := (List.getElem?_eq_some_iff.mp hj).1
    rw [List.replicate_succ, List.flatten_cons]
    cases i with
    | zero => rw [Nat.mul_zero, Nat.zero_add, List.getElem?_append_left hj2]; exact hj
    | succ i =>
      rw [List.getElem?_append_right (by show 2 ≤ _; omega), show 2 * (i + 1) + j - ([x, y] : List Int).length = 2 * i + j by show 2 * (i + 1) + j - 2 = _; omega]
      exact ih (by omega) hj
theorem drawn2 {n : Nat} {x y : Int} {ds : List Int} (h : DrawOk (List.replicate n ([x, y] : List Int)).flatten ds) {i : Nat} (hi : i < n) : ∃ u v, ds[2 * i]? = some u ∧ ds[2 * i + 1]? = some v ∧ (0 ≤ u ∧ u < x) ∧ 0 ≤ v ∧ v < y := by
  have len : ds.length = 2 * n := by
    rw [h.1]
    simp
    omega
  have e0 : ds[2 * i]? = some (ds[2 * i]'(by omega)) := List.getElem?_eq_getElem _
  have e1 : ds[2 * i + 1]? = some (ds[2 * i + 1]'(by omega)) := List.getElem?_eq_getElem _
  exact ⟨_, _, e0, e1, h.2 _ _ x e0 (fl2 (j := 0) hi rfl), h.2 _ _ y e1 (fl2 (j := 1) hi rfl)⟩
theorem lcRg2N {ta : TA} {g : TG} {tt : TT} {te : TE} {vs : List Nat} {σ : L2.St} {H : Hp} {Q : VK} (lo m : Nat) (hm : lo + m ≤ 100000) (Pv : Addr → Nat → Hp → Prop) (ht : ∀ R : List V → Hp → Prop, R [.int (lo : Nat), .int ((lo : Int) + (m : Nat))] H → ta σ H R) (h0 : ∀ o, H o = none → Pv o 0 (upd H o (.lst [])))
    (step : ∀ o i H', H o = none → i < m → Pv o i H' → g (.int ((lo + i : Nat) : Int)) (wipe σ vs) H' fun σ2 H2 => wipe σ2 vs = wipe σ vs ∧ tt σ2 H2 fun b H3 => if b = true then te σ2 H3 fun y H4 => ∃ acc, H4 o = some (.lst acc) ∧ acc.length < sizeLine ∧ Pv o (i + 1) (upd H4 o (.lst (acc ++ [y]))) else Pv o (i + 1) H3)
    (fin : ∀ o H', H o = none → Pv o m H' → Q (.ref o) H') : tLc (iRng2 ta) g tt te vs σ H Q := by
  have en : ((lo : Int) + (m : Nat) - (lo : Nat)).toNat = m := by omega
  refine ht _ ⟨(lo : Nat), (lo : Int) + (m : Nat), rfl, ⟨by omega, by omega, by omega, by omega⟩, fun o no => ?_⟩
  rw [en]
  exact lc_range (Pv o) (h0 o no) (fun i H' hi p => by
    have := step o i H' no hi p
    rwa [show ((lo + i : Nat) : Int) = (lo : Int) + (i : Nat) by omega] at this) fun H' p => fin o H' no p
section
variable {P : Program} {w : World} {K : PySem.W.Frag} {mg : Str → Option Value} {base : Heap}
def spRows (K : PySem.W.Frag) : Sp := fun vs H Q _ => ∃ (a nl : Addr) (at_ m : Nat) (most : Int) (ns : List Int) (zs : List Str), vs = [.ref a, .int (at_ : Nat), .ref nl, .int (m : Nat), .int most] ∧ Scr K H a ns ∧ at_ ≤ 1000 ∧ H nl = some (.lst (zs.map V.str)) ∧ zs.Nodup ∧ zs.length ≤ 20 ∧ 1 ≤ m ∧ m ≤ 100 ∧ 1 ≤ most ∧ most ≤ 10 ∧
  ∀ (r : Addr) (c : Str → Nat → Int × Int) (H' : Hp), H r = none → RwAt H' r zs m c → CellB zs m most c → Kp [] H H' → Q (.ref r) H'
theorem ok_law_rows {f : Addr} {fd : FuncData} (D : Df K mg "_law_rows" s_law_rows ["_law_script", "_law_at", "_law_names_here", "_law_size", "_law_most"] f fd) (T : BtN mg) {fg : Addr} {fdg : FuncData} (D_law_draws : Df K mg "_law_draws" s_law_draws ["_law_script", "_law_at", "_law_bounds"] fg fdg) (G_law_draws : FnOk P w K mg base CX0 2 fg fdg ["_law_script", "_law_at", "_law_bounds"] (spDraws K)) : FnOk P w K mg base CX0 3 f fd ["_law_script", "_law_at", "_law_names_here", "_law_size", "_law_most"] (spRows K) := by
  refine D.F.ok sc_law_rows (fun vs H Q E h => ?_) (fun cdv A outer s H vs Q E hr h => ?_)
  · obtain ⟨a, nl, at_, m, most, ns, zs, rfl, _⟩ := h
    rfl
  · obtain ⟨a, nl, at_, m, most, ns, zs, rfl, hS, a1, hn, nd, z20, m1, m100, o1, o10, q⟩ := h
    have hu := hu_of hr
    refine ⟨_, (pss_cons (ps_set (i := 5) sc_law_rows.nd rfl (Or.inr rfl) (pe_call G_law_draws (hr.mono (by decide)) rfl D_law_draws.g D_law_draws.F.kp D_law_draws.b .nil pass0 (pa_cons (pv 0) (pa_cons (pv 1) (pa_cons (pe_op op_rep (pe_lst (pa_cons (pv 4) (pa_cons (pv 3) pa_nil))) (pe_op op_mul (pv 3) (pe_callB (id := "len") (r := Evl.rLenS K) call_len_seq (by rfl) T.b_len PySem.boot_len (pa_cons (pv 2) pa_nil)))) pa_nil)))))
      (pss_cons (ps_set (i := 6) sc_law_rows.nd rfl (Or.inl rfl) pe_dnewK)
      (pss_cons (ps_for PassesOwn.never rfl (pi_range1 rfl T.b_range (pa_cons (pe_callB (id := "len") (r := Evl.rLenS K) call_len_seq (by rfl) T.b_len PySem.boot_len (pa_cons (pv 2) pa_nil)) pa_nil)) (pg_name (i := 7) sc_law_rows.nd rfl (Or.inl rfl)) (pss_one (ps_dput hu (pv 6) (pe_ix (r := rIxL K) ix_list (pv 2) (pv 7) (fun _ _ => rfl)) (pe_lc (own := [("_law_j", 8)]) (g := (gName 8)) (tt := tYes) rfl sc_law_rows.nd (pi_range2 rfl T.b_range (pa_cons (pe_op op_mul (pv 7) (pv 3)) (pa_cons (pe_op op_add (pe_op op_mul (pv 7) (pv 3)) (pv 3)) pa_nil))) (blkOk_by (N := ["_law_script", "_law_at", "_law_names_here", "_law_size", "_law_most", "_law_spots", "_law_rows_here", "_law_k", "_law_j"]) (sc := defScope s_law_rows) (by decide +kernel)) (fun _ _ _ _ _ => (pg_name (i := 8) sc_law_rows.nd rfl (Or.inl rfl))) (fun _ _ _ _ _ => pts_nil) (fun _ _ _ _ _ => (pe_tup (pa_cons (pe_ix (r := rIxL K) ix_list (pv 5) (pe_op op_mul pe_int (pv 8)) (fun _ _ => rfl)) (pa_cons (pe_ix (r := rIxL K) ix_list (pv 5) (pe_op op_add (pe_op op_mul pe_int (pv 8)) pe_int) (fun _ _ => rfl)) pa_nil))))) rfl)))
      (pss_one (ps_ret (pv 6)))))), ?_⟩
    try simp only [tSeq, tIfS, tTest, tOp, tUn, tCB, tCons, tNil, tVar, tC, rI0, rI, rU, rEq, rNe, tRet, tRetN, tAsg, gName, gSub, tBM, tBM0, tNext, tB, tNot, tAnd, tOr, tIf, tCall, tDrop, tBreak, tCont, L2.start, tDGet, sDPut, tTup, tLst, tDNewK, tRevL, rCat, rAppend, rPop, rSetL, tAndV, tOrV, tNotV, tSl, tPart, tNoPart, tM1, gTup, gCons, gNil, cxK, cxnK, List.map_cons, List.map_nil, List.length_cons, List.length_nil, List.replicate, List.cons_append, List.nil_append, List.append_nil, List.set_cons_zero, List.set_cons_succ, List.getElem?_cons_zero, List.getElem?_cons_succ, Option.some.injEq, V.ref.injEq, V.int.injEq, V.str.injEq, V.bl.injEq, V.ty.injEq, exists_eq_left', exists_eq_left, exists_and_left, List.cons.injEq, and_true, true_and, sc_ii, sc_ss, sc_bb, sc_ni, sc_in, sc_is, sc_si, sc_nn, decide_true, decide_false, reduceCtorEq, Bool.false_eq_true, if_true, if_false, ite_true, ite_false, exists_const, eq_self, false_and, and_false, or_false, false_or, exists_false, Evl.rLenS, rSum, wipe, tYes, exists_eq, exists_eq', rIxL, rIxT, rIxS, exists_and_right, gt_iff_lt, not_true_eq_false, not_false_eq_true, Bool.not_true, Bool.not_false, decide_eq_true_eq, Nat.reduceSub, Nat.reduceAdd, List.append_assoc, tChain, tDIn, tDNotIn, sDDel, tAug, ipI, rRep]
    refine ⟨by decide, fun p np => ?_⟩
    have k1 : Kp [] H (upd H p (.lst [.int most, .int (m : Nat)])) := Kp.new np
    have hn1 := k1 _ _ not0 hn
    refine ⟨_, .inl (sq_l hn1), .inl ⟨by omega, by omega⟩, _, upd_same, ?_⟩
    rw [List.length_map, show ((m : Nat) : Int) * ((zs.length : Nat) : Int) = ((m * zs.length : Nat) : Int) by push_cast; rfl, Int.toNat_natCast]
    have mz : m * zs.length ≤ 2000 := by
      have := Nat.mul_le_mul m100 z20
      omega
    refine ⟨by omega, by omega, ?_, fun p1 np1 => ?_⟩
    · have := smallL (n := 5000) (by decide)
      show 2 * _ ≤ _
      omega
    have k2 := k1.trans (Kp.new np1 (o := .lst (List.replicate (m * zs.length) [V.int most, .int (m : Nat)]).flatten))
    have bsV : (List.replicate (m * zs.length) [V.int most, .int (m : Nat)]).flatten = (List.replicate (m * zs.length) ([most, (m : Int)] : List Int)).flatten.map V.int := by
      rw [List.map_flatten, List.map_replicate]; rfl
    rw [bsV] at k2 ⊢
    refine ⟨a, p1, at_, ns, _, rfl, ⟨k2.ls not0 hS.1, hS.2⟩, a1, upd_same, by simp; omega, fun b hb => ?_, fun s ds H5 ns5 hs hd k5 => ?_⟩
    · obtain ⟨l, hl, hb⟩ := List.mem_flatten.mp hb
      rw [(List.mem_replicate.mp hl).2] at hb
      simp at hb
      rcases hb with rfl | rfl <;> omega
    generalize (upd (upd H p (.lst [.int most, .int (m : Nat)])) p1 (.lst ((List.replicate (m * zs.length) ([most, (m : Int)] : List Int)).flatten.map V.int))) = H4 at k2 ns5 k5 ⊢
    have k25 := k2.trans k5
    have hn5 := k25 _ _ not0 hn
    intro r nr
    have nr0 : H r = none := k25.free0 nr
    have kr : Kp [] H5 (upd H5 r (.dK [])) := Kp.new nr
    have cell : ∀ {z : Str} {j : Nat}, zs[j]? = some z → zs.idxOf z = j := fun {z j} e => by
      obtain ⟨hj, ej⟩ := List.getElem?_eq_some_iff.mp e
      have hz : z ∈ zs := List.mem_of_getElem? e
      have h1 := List.idxOf_lt_length_iff.mpr hz
      have h2 : zs[zs.idxOf z] = z := List.getElem_idxOf h1
      exact (List.getElem_inj nd).mp (h2.trans ej.symm)
    refine forRg zs.length (fun j σ H' => ∃ c7, σ = [some (.ref a), some (.int (at_ : Nat)), some (.ref nl), some (.int (m : Nat)), some (.int most), some (.ref s), some (.ref r), c7, none] ∧ RwAt H' r (zs.take j) m (drawnC zs m ds) ∧ Kp [] H5 H') ?_ (by omega) (by omega) ⟨none, rfl, ⟨[], upd_same, rfl, fun i z e => by cases e⟩, kr⟩ ?_ ?_
    · intro R q
      have hn6 := kr _ _ not0 hn5
      try simp only [tSeq, tIfS, tTest, tOp, tUn, tCB, tCons, tNil, tVar, tC, rI0, rI, rU, rEq, rNe, tRet, tRetN, tAsg, gName, gSub, tBM, tBM0, tNext, tB, tNot, tAnd, tOr, tIf, tCall, tDrop, tBreak, tCont, L2.start, tDGet, sDPut, tTup, tLst, tDNewK, tRevL, rCat, rAppend, rPop, rSetL, tAndV, tOrV, tNotV, tSl, tPart, tNoPart, tM1, gTup, gCons, gNil, cxK, cxnK, List.map_cons, List.map_nil, List.length_cons, List.length_nil, List.replicate, List.cons_append, List.nil_append, List.append_nil, List.set_cons_zero, List.set_cons_succ, List.getElem?_cons_zero, List.getElem?_cons_succ, Option.some.injEq, V.ref.injEq, V.int.injEq, V.str.injEq, V.bl.injEq, V.ty.injEq, exists_eq_left', exists_eq_left, exists_and_left, List.cons.injEq, and_true, true_and, sc_ii, sc_ss, sc_bb, sc_ni, sc_in, sc_is, sc_si, sc_nn, decide_true, decide_false, reduceCtorEq, Bool.false_eq_true, if_true, if_false, ite_true, ite_false, exists_const, eq_self, false_and, and_false, or_false, false_or, exists_false, Evl.rLenS, rSum, wipe, tYes, exists_eq, exists_eq', rIxL, rIxT, rIxS, exists_and_right, gt_iff_lt, not_true_eq_false, not_false_eq_true, Bool.not_true, Bool.not_false, decide_eq_true_eq, Nat.reduceSub, Nat.reduceAdd, List.append_assoc, tChain, tDIn, tDNotIn, sDDel, tAug, ipI]
      refine ⟨_, .inl (sq_l hn6), ?_⟩
      rw [List.length_map]
      exact q
    · rintro j σ H6 hj ⟨c7, rfl, hrw, k6⟩
      have hs6 := k6 _ _ not0 hs
      have hn6 := k6 _ _ not0 hn5
      obtain ⟨z, ez⟩ : ∃ z, zs[j]? = some z := ⟨zs[j], List.getElem?_eq_getElem hj⟩
      have jm : j * m + m ≤ m * zs.length := by
        have := Nat.mul_le_mul_right m (show j + 1 ≤ zs.length from hj)
        rw [Nat.add_mul, Nat.one_mul, Nat.mul_comm zs.length] at this
        exact this
      try simp only [tSeq, tIfS, tTest, tOp, tUn, tCB, tCons, tNil, tVar, tC, rI0, rI, rU, rEq, rNe, tRet, tRetN, tAsg, gName, gSub, tBM, tBM0, tNext, tB, tNot, tAnd, tOr, tIf, tCall, tDrop, tBreak, tCont, L2.start, tDGet, sDPut, tTup, tLst, tDNewK, tRevL, rCat, rAppend, rPop, rSetL, tAndV, tOrV, tNotV, tSl, tPart, tNoPart, tM1, gTup, gCons, gNil, cxK, cxnK, List.map_cons, List.map_nil, List.length_cons, List.length_nil, List.replicate, List.cons_append, List.nil_append, List.append_nil, List.set_cons_zero, List.set_cons_succ, List.getElem?_cons_zero, List.getElem?_cons_succ, Option.some.injEq, V.ref.injEq, V.int.injEq, V.str.injEq, V.bl.injEq, V.ty.injEq, exists_eq_left', exists_eq_left, exists_and_left, List.cons.injEq, and_true, true_and, sc_ii, sc_ss, sc_bb, sc_ni, sc_in, sc_is, sc_si, sc_nn, decide_true, decide_false, reduceCtorEq, Bool.false_eq_true, if_true, if_false, ite_true, ite_false, exists_const, eq_self, false_and, and_false, or_false, false_or, exists_false, Evl.rLenS, rSum, wipe, tYes, exists_eq, exists_eq', rIxL, rIxT, rIxS, exists_and_right, gt_iff_lt, not_true_eq_false, not_false_eq_true, Bool.not_true, Bool.not_false, decide_eq_true_eq, Nat.reduceSub, Nat.reduceAdd, List.append_assoc, tChain, tDIn, tDNotIn, sDDel, tAug, ipI, sDPut]
      refine lcRg2N (j * m) m (by omega) (fun D i H' => ∃ xs, H' D = some (.lst xs) ∧ Cells (drawnC zs m ds z) xs i H' ∧ Kp [] H6 H') ?_ ?_ ?_ ?_
      · intro R' q'
        have cm : CMul (j : Int) (m : Int) := .inl ⟨by omega, by omega⟩
        have ejm : (j : Int) * (m : Int) = ((j * m : Nat) : Int) := by push_cast; rfl
        try simp only [tSeq, tIfS, tTest, tOp, tUn, tCB, tCons, tNil, tVar, tC, rI0, rI, rU, rEq, rNe, tRet, tRetN, tAsg, gName, gSub, tBM, tBM0, tNext, tB, tNot, tAnd, tOr, tIf, tCall, tDrop, tBreak, tCont, L2.start, tDGet, sDPut, tTup, tLst, tDNewK, tRevL, rCat, rAppend, rPop, rSetL, tAndV, tOrV, tNotV, tSl, tPart, tNoPart, tM1, gTup, gCons, gNil, cxK, cxnK, List.map_cons, List.map_nil, List.length_cons, List.length_nil, List.replicate, List.cons_append, List.nil_append, List.append_nil, List.set_cons_zero, List.set_cons_succ, List.getElem?_cons_zero, List.getElem?_cons_succ, Option.some.injEq, V.ref.injEq, V.int.injEq, V.str.injEq, V.bl.injEq, V.ty.injEq, exists_eq_left', exists_eq_left, exists_and_left, List.cons.injEq, and_true, true_and, sc_ii, sc_ss, sc_bb, sc_ni, sc_in, sc_is, sc_si, sc_nn, decide_true, decide_false, reduceCtorEq, Bool.false_eq_true, if_true, if_false, ite_true, ite_false, exists_const, eq_self, false_and, and_false, or_false, false_or, exists_false, Evl.rLenS, rSum, wipe, tYes, exists_eq, exists_eq', rIxL, rIxT, rIxS, exists_and_right, gt_iff_lt, not_true_eq_false, not_false_eq_true, Bool.not_true, Bool.not_false, decide_eq_true_eq, Nat.reduceSub, Nat.reduceAdd, List.append_assoc, tChain, tDIn, tDNotIn, sDDel, tAug, ipI]
        refine ⟨cm, cm, ?_⟩
        rw [ejm]
        exact q'
      · intro D nD
        exact ⟨[], upd_same, ⟨rfl, fun s hs => absurd hs (by omega)⟩, Kp.new nD⟩
      · intro D i H' nD hi hP
        obtain ⟨xs, hD, hc, k7⟩ := hP
        have hs7 := k7 _ _ not0 hs6
        obtain ⟨u, v, eu, ev, b1, b2⟩ := drawn2 hd (show j * m + i < m * zs.length by omega)
        have eu' : (ds.map V.int)[2 * (j * m + i)]? = some (.int u) := by rw [List.getElem?_map, eu]; rfl
        have ev' : (ds.map V.int)[2 * (j * m + i) + 1]? = some (.int v) := by rw [List.getElem?_map, ev]; rfl
        have ec : drawnC zs m ds z i = (u, v) := by
          unfold drawnC
          rw [cell ez, List.getD_eq_getElem?_getD, List.getD_eq_getElem?_getD, eu, ev]; rfl
        have a1' : atI (ds.map V.int) (2 * ((j * m + i : Nat) : Int)) = some (.int u) := by
          rw [show 2 * ((j * m + i : Nat) : Int) = ((2 * (j * m + i) : Nat) : Int) by omega]; exact atI_nat eu'
        have a2' : atI (ds.map V.int) (2 * ((j * m + i : Nat) : Int) + 1) = some (.int v) := by
          rw [show 2 * ((j * m + i : Nat) : Int) + 1 = ((2 * (j * m + i) + 1 : Nat) : Int) by omega]; exact atI_nat ev'
        try simp only [tSeq, tIfS, tTest, tOp, tUn, tCB, tCons, tNil, tVar, tC, rI0, rI, rU, rEq, rNe, tRet, tRetN, tAsg, gName, gSub, tBM, tBM0, tNext, tB, tNot, tAnd, tOr, tIf, tCall, tDrop, tBreak, tCont, L2.start, tDGet, sDPut, tTup, tLst, tDNewK, tRevL, rCat, rAppend, rPop, rSetL, tAndV, tOrV, tNotV, tSl, tPart, tNoPart, tM1, gTup, gCons, gNil, cxK, cxnK, List.map_cons, List.map_nil, List.length_cons, List.length_nil, List.replicate, List.cons_append, List.nil_append, List.append_nil, List.set_cons_zero, List.set_cons_succ, List.getElem?_cons_zero, List.getElem?_cons_succ, Option.some.injEq, V.ref.injEq, V.int.injEq, V.str.injEq, V.bl.injEq, V.ty.injEq, exists_eq_left', exists_eq_left, exists_and_left, List.cons.injEq, and_true, true_and, sc_ii, sc_ss, sc_bb, sc_ni, sc_in, sc_is, sc_si, sc_nn, decide_true, decide_false, reduceCtorEq, Bool.false_eq_true, if_true, if_false, ite_true, ite_false, exists_const, eq_self, false_and, and_false, or_false, false_or, exists_false, Evl.rLenS, rSum, wipe, tYes, exists_eq, exists_eq', rIxL, rIxT, rIxS, exists_and_right, gt_iff_lt, not_true_eq_false, not_false_eq_true, Bool.not_true, Bool.not_false, decide_eq_true_eq, Nat.reduceSub, Nat.reduceAdd, List.append_assoc, tChain, tDIn, tDNotIn, sDDel, tAug, ipI]
        refine ⟨.inl ⟨by decide, by decide⟩, _, sq_l hs7, .int u, a1', .inl ⟨by decide, by decide⟩, _, sq_l hs7, .int v, a2', by decide, fun p np => ?_⟩
        have kp : Kp [] H' (upd H' p (.tup [.int u, .int v])) := Kp.new np
        have hD2 := kp _ _ not0 hD
        refine ⟨xs, hD2, smallL (by rw [hc.1]; omega), xs ++ [.ref p], upd_same, Cells.putL (Cells.snoc (hc.kp kp) ?_) hD2, (k7.trans kp).wr nD⟩
        rw [upd_same, ec]
      · intro D H7 nD hP
        obtain ⟨xs, hD, hc, k7⟩ := hP
        have hn7 := k7 _ _ not0 hn6
        obtain ⟨kvs, hr7, hl7, hput, hrw7⟩ := hrw.put (z := z) (xs := xs) (c := drawnC zs m ds) k7 (nd_fresh nd ez) hD hc
        have ez' : (zs.map V.str)[j]? = some (.str z) := by rw [List.getElem?_map, ez]; rfl
        try simp only [tSeq, tIfS, tTest, tOp, tUn, tCB, tCons, tNil, tVar, tC, rI0, rI, rU, rEq, rNe, tRet, tRetN, tAsg, gName, gSub, tBM, tBM0, tNext, tB, tNot, tAnd, tOr, tIf, tCall, tDrop, tBreak, tCont, L2.start, tDGet, sDPut, tTup, tLst, tDNewK, tRevL, rCat, rAppend, rPop, rSetL, tAndV, tOrV, tNotV, tSl, tPart, tNoPart, tM1, gTup, gCons, gNil, cxK, cxnK, List.map_cons, List.map_nil, List.length_cons, List.length_nil, List.replicate, List.cons_append, List.nil_append, List.append_nil, List.set_cons_zero, List.set_cons_succ, List.getElem?_cons_zero, List.getElem?_cons_succ, Option.some.injEq, V.ref.injEq, V.int.injEq, V.str.injEq, V.bl.injEq, V.ty.injEq, exists_eq_left', exists_eq_left, exists_and_left, List.cons.injEq, and_true, true_and, sc_ii, sc_ss, sc_bb, sc_ni, sc_in, sc_is, sc_si, sc_nn, decide_true, decide_false, reduceCtorEq, Bool.false_eq_true, if_true, if_false, ite_true, ite_false, exists_const, eq_self, false_and, and_false, or_false, false_or, exists_false, Evl.rLenS, rSum, wipe, tYes, exists_eq, exists_eq', rIxL, rIxT, rIxS, exists_and_right, gt_iff_lt, not_true_eq_false, not_false_eq_true, Bool.not_true, Bool.not_false, decide_eq_true_eq, Nat.reduceSub, Nat.reduceAdd, List.append_assoc, tChain, tDIn, tDNotIn, sDDel, tAug, ipI]
        refine ⟨_, sq_l hn7, .str z, atI_nat ez', _, .inl ⟨kvs, Sum.inr z, hr7, rfl, smallL (by rw [hl7, List.length_take]; omega), rfl⟩, ?_, (k6.trans k7).wr nr⟩
        rw [hput, take_snoc ez]
        exact hrw7
    · rintro σ H6 ⟨c7, rfl, hrw, k6⟩
      rw [List.take_length] at hrw
      try simp only [tSeq, tIfS, tTest, tOp, tUn, tCB, tCons, tNil, tVar, tC, rI0, rI, rU, rEq, rNe, tRet, tRetN, tAsg, gName, gSub, tBM, tBM0, tNext, tB, tNot, tAnd, tOr, tIf, tCall, tDrop, tBreak, tCont, L2.start, tDGet, sDPut, tTup, tLst, tDNewK, tRevL, rCat, rAppend, rPop, rSetL, tAndV, tOrV, tNotV, tSl, tPart, tNoPart, tM1, gTup, gCons, gNil, cxK, cxnK, List.map_cons, List.map_nil, List.length_cons, List.length_nil, List.replicate, List.cons_append, List.nil_append, List.append_nil, List.set_cons_zero, List.set_cons_succ, List.getElem?_cons_zero, List.getElem?_cons_succ, Option.some.injEq, V.ref.injEq, V.int.injEq, V.str.injEq, V.bl.injEq, V.ty.injEq, exists_eq_left', exists_eq_left, exists_and_left, List.cons.injEq, and_true, true_and, sc_ii, sc_ss, sc_bb, sc_ni, sc_in, sc_is, sc_si, sc_nn, decide_true, decide_false, reduceCtorEq, Bool.false_eq_true, if_true, if_false, ite_true, ite_false, exists_const, eq_self, false_and, and_false, or_false, false_or, exists_false, Evl.rLenS, rSum, wipe, tYes, exists_eq, exists_eq', rIxL, rIxT, rIxS, exists_and_right, gt_iff_lt, not_true_eq_false, not_false_eq_true, Bool.not_true, Bool.not_false, decide_eq_true_eq, Nat.reduceSub, Nat.reduceAdd, List.append_assoc, tChain, tDIn, tDNotIn, sDDel, tAug, ipI]
      refine q r (drawnC zs m ds) H6 nr0 hrw (fun z hz s hs => ?_) (k25.trans k6)
      obtain ⟨j, ez⟩ := List.getElem?_of_mem hz
      have hj := (List.getElem?_eq_some_iff.mp ez).1
      have jm : j * m + m ≤ m * zs.length := by
        have := Nat.mul_le_mul_right m (show j + 1 ≤ zs.length from hj)
        rw [Nat.add_mul, Nat.one_mul, Nat.mul_comm zs.length] at this
        exact this
      obtain ⟨u, v, eu, ev, b1, b2⟩ := drawn2 hd (show j * m + s < m * zs.length by omega)
      have ec : drawnC zs m ds z s = (u, v) := by
        unfold drawnC
        rw [cell ez, List.getD_eq_getElem?_getD, List.getD_eq_getElem?_getD, eu, ev]; rfl
      rw [ec]
      exact ⟨b1, b2⟩
/-- a copy: new lists of the same tuples -/
def spWhole : Sp := fun vs H Q _ => ∃ i j : Int, vs = [.int i, .int j] ∧ Q (.bl (decide (i = j))) H
theorem ok_law_is_whole {f : Addr} {fd : FuncData} (D : Df K mg "_law_is_whole" s_law_is_whole ["_law_told", "_law_due_here"] f fd) (T : BtN mg) (b_isinstance : mg "isinstance" = none) (b_bool : mg "bool" = none) : FnOk P w K mg base CX0 1 f fd ["_law_told", "_law_due_here"] spWhole := by
  refine D.F.ok sc_law_is_whole (fun vs H Q E h => ?_) (fun cdv A outer s H vs Q E hr h => ?_)
  · obtain ⟨i, j, rfl, _⟩ := h
    rfl
  · obtain ⟨i, j, rfl, q⟩ := h
    have T : BtW mg := ⟨T.b_int, b_isinstance, b_bool⟩
    refine ⟨_, (pss_one (ps_ret (pe_and (pe_callB (id := "isinstance") (r := rIsi K) call_isi (by rfl) T.b_isinstance (by decide +kernel) (pa_cons (pv 0) (pa_cons (pe_bltn (v := .ty "int") (by rfl) T.b_int (by decide +kernel) rfl) pa_nil))) (pe_and (pe_not (pe_callB (id := "isinstance") (r := rIsi K) call_isi (by rfl) T.b_isinstance (by decide +kernel) (pa_cons (pv 0) (pa_cons (pe_bltn (v := .ty "bool") (by rfl) T.b_bool (by decide +kernel) rfl) pa_nil)))) (pe_one (pe_cmpR op_eq (pv 0) (pv 1) (nomark _))))))), ?_⟩
    try simp only [tSeq, tIfS, tTest, tOp, tUn, tCB, tCons, tNil, tVar, tC, rI0, rI, rU, rEq, rNe, tRet, tRetN, tAsg, gName, gSub, tBM, tBM0, tNext, tB, tNot, tAnd, tOr, tIf, tCall, tDrop, tBreak, tCont, L2.start, tDGet, sDPut, tTup, tLst, tDNewK, tRevL, rCat, rAppend, rPop, rSetL, tAndV, tOrV, tNotV, tSl, tPart, tNoPart, tM1, gTup, gCons, gNil, cxK, cxnK, List.map_cons, List.map_nil, List.length_cons, List.length_nil, List.replicate, List.cons_append, List.nil_append, List.append_nil, List.set_cons_zero, List.set_cons_succ, List.getElem?_cons_zero, List.getElem?_cons_succ, Option.some.injEq, V.ref.injEq, V.int.injEq, V.str.injEq, V.bl.injEq, V.ty.injEq, exists_eq_left', exists_eq_left, exists_and_left, List.cons.injEq, and_true, true_and, sc_ii, sc_ss, sc_bb, sc_ni, sc_in, sc_is, sc_si, sc_nn, decide_true, decide_false, reduceCtorEq, Bool.false_eq_true, if_true, if_false, ite_true, ite_false, exists_const, eq_self, false_and, and_false, or_false, false_or, exists_false, Evl.rLenS, rSum, wipe, tYes, exists_eq, exists_eq', rIxL, rIxT, rIxS, exists_and_right, gt_iff_lt, not_true_eq_false, not_false_eq_true, Bool.not_true, Bool.not_false, decide_eq_true_eq, Nat.reduceSub, Nat.reduceAdd, List.append_assoc, tChain, tDIn, tDNotIn, sDDel, tAug, ipI]
    refine isi_int_int ?_
    try simp only [tSeq, tIfS, tTest, tOp, tUn, tCB, tCons, tNil, tVar, tC, rI0, rI, rU, rEq, rNe, tRet, tRetN, tAsg, gName, gSub, tBM, tBM0, tNext, tB, tNot, tAnd, tOr, tIf, tCall, tDrop, tBreak, tCont, L2.start, tDGet, sDPut, tTup, tLst, tDNewK, tRevL, rCat, rAppend, rPop, rSetL, tAndV, tOrV, tNotV, tSl, tPart, tNoPart, tM1, gTup, gCons, gNil, cxK, cxnK, List.map_cons, List.map_nil, List.length_cons, List.length_nil, List.replicate, List.cons_append, List.nil_append, List.append_nil, List.set_cons_zero, List.set_cons_succ, List.getElem?_cons_zero, List.getElem?_cons_succ, Option.some.injEq, V.ref.injEq, V.int.injEq, V.str.injEq, V.bl.injEq, V.ty.injEq, exists_eq_left', exists_eq_left, exists_and_left, List.cons.injEq, and_true, true_and, sc_ii, sc_ss, sc_bb, sc_ni, sc_in, sc_is, sc_si, sc_nn, decide_true, decide_false, reduceCtorEq, Bool.false_eq_true, if_true, if_false, ite_true, ite_false, exists_const, eq_self, false_and, and_false, or_false, false_or, exists_false, Evl.rLenS, rSum, wipe, tYes, exists_eq, exists_eq', rIxL, rIxT, rIxS, exists_and_right, gt_iff_lt, not_true_eq_false, not_false_eq_true, Bool.not_true, Bool.not_false, decide_eq_true_eq, Nat.reduceSub, Nat.reduceAdd, List.append_assoc, tChain, tDIn, tDNotIn, sDDel, tAug, ipI]
    refine isi_int_bool ?_
    try simp only [tSeq, tIfS, tTest, tOp, tUn, tCB, tCons, tNil, tVar, tC, rI0, rI, rU, rEq, rNe, tRet, tRetN, tAsg, gName, gSub, tBM, tBM0, tNext, tB, tNot, tAnd, tOr, tIf, tCall, tDrop, tBreak, tCont, L2.start, tDGet, sDPut, tTup, tLst, tDNewK, tRevL, rCat, rAppend, rPop, rSetL, tAndV, tOrV, tNotV, tSl, tPart, tNoPart, tM1, gTup, gCons, gNil, cxK, cxnK, List.map_cons, List.map_nil, List.length_cons, List.length_nil, List.replicate, List.cons_append, List.nil_append, List.append_nil, List.set_cons_zero, List.set_cons_succ, List.getElem?_cons_zero, List.getElem?_cons_succ, Option.some.injEq, V.ref.injEq, V.int.injEq, V.str.injEq, V.bl.injEq, V.ty.injEq, exists_eq_left', exists_eq_left, exists_and_left, List.cons.injEq, and_true, true_and, sc_ii, sc_ss, sc_bb, sc_ni, sc_in, sc_is, sc_si, sc_nn, decide_true, decide_false, reduceCtorEq, Bool.false_eq_true, if_true, if_false, ite_true, ite_false, exists_const, eq_self, false_and, and_false, or_false, false_or, exists_false, Evl.rLenS, rSum, wipe, tYes, exists_eq, exists_eq', rIxL, rIxT, rIxS, exists_and_right, gt_iff_lt, not_true_eq_false, not_false_eq_true, Bool.not_true, Bool.not_false, decide_eq_true_eq, Nat.reduceSub, Nat.reduceAdd, List.append_assoc, tChain, tDIn, tDNotIn, sDDel, tAug, ipI]
    exact q
end
end My

set_option Elab.async false
set_option linter.all false
set_option maxRecDepth 100000
set_option maxHeartbeats 4000000
namespace My
open PySem L2 NdefX StX
abbrev s_law_tells : Stmt := top 25
theorem sc_law_tells : FnScope ["_law_table", "_law_names_here", "_law_rows_here", "_law_start", "_law_size", "_law_told", "_law_name", "_law_state", "_law_pair", "_law_due_here"] ["_law_table", "_law_names_here", "_law_rows_here", "_law_start"] (defScope s_law_tells) := ⟨rfl, rfl, rfl, by decide +kernel, rfl, by decide +kernel, by decide +kernel⟩
abbrev s_law_walk : Stmt := top 26
theorem sc_law_walk : FnScope ["_law_rows_here", "_law_start", "_law_calls_here", "_law_state", "_law_found", "_law_name", "_law_pair"] ["_law_rows_here", "_law_start", "_law_calls_here"] (defScope s_law_walk) := ⟨rfl, rfl, rfl, by decide +kernel, rfl, by decide +kernel, by decide +kernel⟩
abbrev s_law_answers : Stmt := top 27
theorem sc_law_answers : FnScope ["_law_table", "_law_rows_here", "_law_start", "_law_calls_here", "_law_handed", "_law_told", "_law_due_here", "_law_k"] ["_law_table", "_law_rows_here", "_law_start", "_law_calls_here"] (defScope s_law_answers) := ⟨rfl, rfl, rfl, by decide +kernel, rfl, by decide +kernel, by decide +kernel⟩
structure BtD (mg : Str → Option Value) : Prop where
  b_len : mg "len" = none
  b_range : mg "range" = none
  b_isinstance : mg "isinstance" = none
  b_list : mg "list" = none
  b_tuple : mg "tuple" = none
  b_int : mg "int" = none
def Fit (d : PyData) : Prop := SeqAt.shaped d = true ∧ d.depth ≤ 60
theorem fit_str {z : Str} (h : PyData.canLay0 (.str z) = true) : Fit (.str z) := by
  refine ⟨?_, by show PyData.depth (.str z) ≤ 60; simp [PyData.depth]⟩
  unfold SeqAt.shaped
  rw [h]
  simp [PyData.depth]
theorem fitL {ds : List PyData} (h : ∀ d ∈ ds, Fit d) : SeqAt.shaped (.list ds) = true ∧ SeqAt.shaped (.tuple ds) = true := by
  have a1 : PyData.canLayAll0 ds = true := by
    induction ds with
    | nil => rfl
    | cons d r ih =>
      have h1 := h d List.mem_cons_self
      show (PyData.canLay0 d && PyData.canLayAll0 r) = true
      rw [SeqAt.canLay_of_shaped h1.1, ih fun x hx => h x (List.mem_cons_of_mem _ hx)]; rfl
  have a2 : PyData.depthAll ds ≤ 60 := by
    clear a1
    induction ds with
    | nil => exact Nat.zero_le _
    | cons d r ih =>
      have h1 := h d List.mem_cons_self
      have h2 := ih fun x hx => h x (List.mem_cons_of_mem _ hx)
      show max d.depth (PyData.depthAll r) ≤ 60
      have hd := h1.2
      omega
  have b1 : decide (PyData.depthAll ds + 1 ≤ 64) = true := decide_eq_true (by omega)
  constructor <;> (show (PyData.canLayAll0 ds && decide (PyData.depthAll ds + 1 ≤ 64)) = true; rw [a1, b1]; rfl)
theorem dpStrs {K : PySem.W.Frag} {H : Hp} : ∀ zs : List Str, DpAll K H (zs.map V.str) (zs.map PyData.str)
  | [] => .nil
  | z :: zs => .cons (.str z) (dpStrs zs)
theorem fit_name {z : Str} (h : nameS z = true) : Fit (.str z) := by
  unfold nameS at h
  rw [Bool.and_eq_true, Bool.and_eq_true, decide_eq_true_eq, decide_eq_true_eq, List.all_eq_true] at h
  refine fit_str ?_
  show PySem.PyData.canLay0 (.str z) = true
  unfold PySem.PyData.canLay0 PySem.PyData.strOk
  rw [← Array.all_toList, List.all_eq_true]
  intro c hc
  have := h.2.2 c hc
  unfold lowC at this
  rw [Bool.and_eq_true, decide_eq_true_eq, decide_eq_true_eq] at this
  exact decide_eq_true (by omega)
theorem shaped_names {zs : List Str} (h : ∀ z ∈ zs, nameS z = true) : SeqAt.shaped (.list (zs.map PyData.str)) = true := (fitL fun d hd => by
  obtain ⟨z, hz, rfl⟩ := List.mem_map.mp hd
  exact fit_name (h z hz)).1
/-- the table at t tells the rows c -/
def TabIs (TC : Addr) (H : Hp) (t : Addr) (zs : List Str) (m : Nat) (start : Int) (c : Str → Nat → Int × Int) : Prop := ∃ rs, TabAt TC H t m start rs ∧ namesOf rs = zs ∧ ∀ z ∈ zs, ∀ s : Nat, s < m → cellOf rs z s = c z s
theorem TabIs.kp {TC : Addr} {H H' : Hp} {t : Addr} {zs : List Str} {m : Nat} {start : Int} {c : Str → Nat → Int × Int} (h : TabIs TC H t zs m start c) (k : Kp [] H H') : TabIs TC H' t zs m start c := by
  obtain ⟨rs, a, b⟩ := h
  exact ⟨rs, a.kp k, b⟩
theorem _root_.L2.FnOk.toR {P : Program} {w : World} {K : PySem.W.Frag} {mg : Str → Option Value} {base : Heap} {CX : CXT} {k : Nat} {f : Addr} {fd : FuncData} {ps : List Str} {sp : Sp} (F : FnOk P w K mg base CX k f fd ps sp) (hb : Binds K fd ps []) : FnR P w K mg base CX k f sp :=
  fun A outer s H us vs Q E hr e0 r h => by
    have KX : K.In s.heap := e0.mod.kin.keeps fun b o e => (e0.bs b o e).1
    have hl : us.length = ps.length := by rw [← r.length]; exact F.len _ _ _ _ h
    have z := hb s us KX (by rw [List.append_nil]; exact hl)
    rw [List.append_nil] at z
    exact F.run A outer s H ⟨us, []⟩ us vs Q E hr e0 z r h
/-- at d a dict that has these rows among others -/
def RwOn (H : Hp) (d : Addr) (zs : List Str) (m : Nat) (c : Str → Nat → Int × Int) : Prop := ∃ kvs : List (Key × V), H d = some (.dK kvs) ∧ ∀ z ∈ zs, ∃ l xs, valV kvs (Sum.inr z) = some (.ref l) ∧ H l = some (.lst xs) ∧ Cells (c z) xs m H
theorem RwAt.on {H : Hp} {d : Addr} {zs : List Str} {m : Nat} {c : Str → Nat → Int × Int} (h : RwAt H d zs m c) (nd : zs.Nodup) : RwOn H d zs m c := by
  obtain ⟨kvs, hd, _⟩ := id h
  refine ⟨kvs, hd, fun z hz => ?_⟩
  obtain ⟨kv2, l, xs, h1, h2, h3, h4⟩ := h.get nd hz
  rw [hd] at h1
  cases h1
  exact ⟨l, xs, h2, h3, h4⟩
theorem RwOn.kp {H H' : Hp} {d : Addr} {zs : List Str} {m : Nat} {c : Str → Nat → Int × Int} (h : RwOn H d zs m c) (k : Kp [] H H') : RwOn H' d zs m c := by
  obtain ⟨kvs, hd, hv⟩ := h
  refine ⟨kvs, k _ _ not0 hd, fun z hz => ?_⟩
  obtain ⟨l, xs, h2, h3, h4⟩ := hv z hz
  exact ⟨l, xs, h2, k _ _ not0 h3, h4.kp k⟩
theorem RwOn.sub {H : Hp} {d : Addr} {zs ys : List Str} {m : Nat} {c : Str → Nat → Int × Int} (h : RwOn H d zs m c) (s : ∀ z ∈ ys, z ∈ zs) : RwOn H d ys m c := by
  obtain ⟨kvs, hd, hv⟩ := h
  exact ⟨kvs, hd, fun z hz => hv z (s z hz)⟩
theorem RwOn.get {H : Hp} {d : Addr} {zs : List Str} {m : Nat} {c : Str → Nat → Int × Int} (h : RwOn H d zs m c) (_ : zs.Nodup) {z : Str} (hz : z ∈ zs) : ∃ kvs l xs, H d = some (.dK kvs) ∧ valV kvs (Sum.inr z) = some (.ref l) ∧ H l = some (.lst xs) ∧ Cells (c z) xs m H := by
  obtain ⟨kvs, hd, hv⟩ := h
  obtain ⟨l, xs, h⟩ := hv z hz
  exact ⟨kvs, l, xs, hd, h⟩
section
variable {P : Program} {w : World} {K : PySem.W.Frag} {mg : Str → Option Value} {base : Heap}
def spTells (TC : Addr) : Sp := fun vs H Q _ => ∃ (t nl d : Addr) (m : Nat) (start : Int) (zs : List Str) (c : Str → Nat → Int × Int), vs = [.ref t, .ref nl, .ref d, .int start] ∧ TabIs TC H t zs m start c ∧ H nl = some (.lst (zs.map V.str)) ∧ RwOn H d zs m c ∧ ∀ H', Kp [] H H' → Q (.bl true) H'
theorem ok_law_tells {f : Addr} {fd : FuncData} (D : Df K mg "_law_tells" s_law_tells ["_law_table", "_law_names_here", "_law_rows_here", "_law_start"] f fd) (T : BtD mg) {TC NO BN fN fC : Addr} {fdN fdC : FuncData} (C : TbC K mg TC) {fw : Addr} {fdw : FuncData} (D_law_is_whole : Df K mg "_law_is_whole" s_law_is_whole ["_law_told", "_law_due_here"] fw fdw) (G_law_is_whole : FnOk P w K mg base CX0 1 fw fdw ["_law_told", "_law_due_here"] spWhole)
    (ME_Table_names : Meth K TC "names" fN) (bM_Table_names : Binds K fdN ["self"] []) (G_Table_names : FnOk P w K mg base CX0 1 fN fdN ["self"] (spTN TC))
    (CO_Table : CallO K TC fC) (bC_Table : Binds K fdC ["self", "name", "state"] []) (G_Table_call0 : FnOk P w K mg base (L2.CX P w) 4 fC fdC ["self", "name", "state"] (spTCall TC NO BN)) : FnOk P w K mg base CX0 6 f fd ["_law_table", "_law_names_here", "_law_rows_here", "_law_start"] (spTells TC) := by
  refine D.F.ok sc_law_tells (fun vs H Q E h => ?_) (fun cdv A outer s H vs Q E hr h => ?_)
  · obtain ⟨t, nl, d, m, start, zs, c, rfl, _⟩ := h
    rfl
  · obtain ⟨t, nl, d, m, start, zs, c, rfl, ht, hn, hd, q⟩ := h
    have hu := hu_of hr
    have G_Table_call := G_Table_call0.toR bC_Table
    refine ⟨_, (pss_cons (ps_set (i := 4) sc_law_tells.nd rfl (Or.inl rfl) (pe_callB (id := "len") (r := Evl.rLenS K) call_len_seq (by rfl) T.b_len PySem.boot_len (pa_cons (pe_dget hu (pv 2) (pe_ix (r := rIxL K) ix_list (pv 1) pe_int (fun _ _ => rfl)) (fun _ _ => rfl)) pa_nil)))
      (pss_cons (ps_if (PW.pt (pw_or (pt_not (pt_val (pe_call (k := 1) G_law_is_whole (hr.mono (by decide)) rfl D_law_is_whole.g D_law_is_whole.F.kp D_law_is_whole.b .nil pass0 (pa_cons (pe_fld (pv 0) rfl) (pa_cons (pv 4) pa_nil))))) (pw_or1 (pt_not (pt_val (pe_call (k := 1) G_law_is_whole (hr.mono (by decide)) rfl D_law_is_whole.g D_law_is_whole.F.kp D_law_is_whole.b .nil pass0 (pa_cons (pe_fld (pv 0) rfl) (pa_cons (pv 3) pa_nil)))))))) (pss_one (ps_ret pe_bl)) pss_nil)
      (pss_cons (ps_set (i := 5) sc_law_tells.nd rfl (Or.inl rfl) (pe_meth0 (pv 0) C.cl ME_Table_names G_Table_names (hr.mono (by decide)) bM_Table_names .nil pass0))
      (pss_cons (ps_if (PW.pt (pw_or (pt_not (pt_val (pe_callB (id := "isinstance") (r := rIsi K) call_isi (by rfl) T.b_isinstance (by decide +kernel) (pa_cons (pv 5) (pa_cons (pe_bltn (v := .ty "list") (by rfl) T.b_list (by decide +kernel) rfl) pa_nil))))) (pw_or1 (pt_cmpR (op_neD hr.units) (pv 5) (pv 1) (nomark _))))) (pss_one (ps_ret pe_bl)) pss_nil)
      (pss_cons (ps_for PassesOwn.never rfl (pi_list (pv 1)) (pg_name (i := 6) sc_law_tells.nd rfl (Or.inl rfl)) (pss_one (ps_for PassesOwn.never rfl (pi_range1 rfl T.b_range (pa_cons (pv 4) pa_nil)) (pg_name (i := 7) sc_law_tells.nd rfl (Or.inl rfl)) (pss_cons (ps_set (i := 8) sc_law_tells.nd rfl (Or.inl rfl) (pe_callO (pv 0) CO_Table G_Table_call (hr.mono (by decide)) passL (pa_cons (pv 6) (pa_cons (pv 7) pa_nil))))
      (pss_cons (ps_set (i := 9) sc_law_tells.nd rfl (Or.inl rfl) (pe_ix (r := rIxL K) ix_list (pe_dget hu (pv 2) (pv 6) (fun _ _ => rfl)) (pv 7) (fun _ _ => rfl)))
      (pss_cons (ps_if (PW.pt (pw_or (pt_not (pt_val (pe_callB (id := "isinstance") (r := rIsi K) call_isi (by rfl) T.b_isinstance (by decide +kernel) (pa_cons (pv 8) (pa_cons (pe_bltn (v := .ty "tuple") (by rfl) T.b_tuple (by decide +kernel) rfl) pa_nil))))) (pw_or1 (pt_cmpR op_ne (pe_callB (id := "len") (r := Evl.rLenS K) call_len_seq (by rfl) T.b_len PySem.boot_len (pa_cons (pv 8) pa_nil)) pe_int (nomark _))))) (pss_one (ps_ret pe_bl)) pss_nil)
      (pss_one (ps_if (PW.pt (pw_or (pt_not (pt_val (pe_call (k := 1) G_law_is_whole (hr.mono (by decide)) rfl D_law_is_whole.g D_law_is_whole.F.kp D_law_is_whole.b .nil pass0 (pa_cons (pe_ix (r := rIxT K) ix_tup (pv 8) pe_int (fun _ _ => rfl)) (pa_cons (pe_ix (r := rIxT K) ix_tup (pv 9) pe_int (fun _ _ => rfl)) pa_nil))))) (pw_or1 (pt_not (pt_val (pe_call (k := 1) G_law_is_whole (hr.mono (by decide)) rfl D_law_is_whole.g D_law_is_whole.F.kp D_law_is_whole.b .nil pass0 (pa_cons (pe_ix (r := rIxT K) ix_tup (pv 8) pe_int (fun _ _ => rfl)) (pa_cons (pe_ix (r := rIxT K) ix_tup (pv 9) pe_int (fun _ _ => rfl)) pa_nil)))))))) (pss_one (ps_ret pe_bl)) pss_nil))))))))
      (pss_one (ps_ret pe_bl))))))), ?_⟩
    try simp only [tSeq, tIfS, tTest, tOp, tUn, tCB, tCons, tNil, tVar, tC, rI0, rI, rU, rEq, rNe, tRet, tRetN, tAsg, gName, gSub, tBM, tBM0, tNext, tB, tNot, tAnd, tOr, tIf, tCall, tDrop, tBreak, tCont, L2.start, tDGet, sDPut, tTup, tLst, tDNewK, tRevL, rCat, rAppend, rPop, rSetL, tAndV, tOrV, tNotV, tSl, tPart, tNoPart, tM1, gTup, gCons, gNil, cxK, cxnK, List.map_cons, List.map_nil, List.length_cons, List.length_nil, List.replicate, List.cons_append, List.nil_append, List.append_nil, List.set_cons_zero, List.set_cons_succ, List.getElem?_cons_zero, List.getElem?_cons_succ, Option.some.injEq, V.ref.injEq, V.int.injEq, V.str.injEq, V.bl.injEq, V.ty.injEq, exists_eq_left', exists_eq_left, exists_and_left, List.cons.injEq, and_true, true_and, sc_ii, sc_ss, sc_bb, sc_ni, sc_in, sc_is, sc_si, sc_nn, decide_true, decide_false, reduceCtorEq, Bool.false_eq_true, if_true, if_false, ite_true, ite_false, exists_const, eq_self, false_and, and_false, or_false, false_or, exists_false, Evl.rLenS, rSum, wipe, tYes, exists_eq, exists_eq', rIxL, rIxT, rIxS, exists_and_right, gt_iff_lt, not_true_eq_false, not_false_eq_true, Bool.not_true, Bool.not_false, decide_eq_true_eq, Nat.reduceSub, Nat.reduceAdd, List.append_assoc, tChain, tDIn, tDNotIn, sDDel, tAug, ipI, tFld, tMeth]
    obtain ⟨rs, hT, en, hc⟩ := ht
    have bT := hT.bnd
    have nd : zs.Nodup := by rw [← en]; exact bT.2.2.2.2.2.2.2
    obtain ⟨dx, dd, ho⟩ := hT.head
    obtain ⟨z0, r0, ez0⟩ : ∃ z r, zs = z :: r := by
      cases zs with
      | nil =>
        have : rs = [] := List.map_eq_nil_iff.mp en
        exact absurd this bT.1
      | cons z r => exact ⟨z, r, rfl⟩
    have h0 : z0 ∈ zs := by rw [ez0]; simp
    obtain ⟨kvs, l, xs, hd1, ev, hl, hcl⟩ := hd.get nd h0
    refine ⟨_, sq_l hn, .str z0, atI_of (by decide) (by rw [ez0]; rfl), .ref l, .inl ⟨kvs, Sum.inr z0, .inl hd1, rfl, ev.symm⟩, l, rfl, xs, .inl (sq_l hl), TC, dx, _, ho, C.cl, C.n1, _, rfl, (m : Nat), (xs.length : Nat), rfl, ?_⟩
    rw [hcl.1, decide_eq_true rfl]
    try simp only [tSeq, tIfS, tTest, tOp, tUn, tCB, tCons, tNil, tVar, tC, rI0, rI, rU, rEq, rNe, tRet, tRetN, tAsg, gName, gSub, tBM, tBM0, tNext, tB, tNot, tAnd, tOr, tIf, tCall, tDrop, tBreak, tCont, L2.start, tDGet, sDPut, tTup, tLst, tDNewK, tRevL, rCat, rAppend, rPop, rSetL, tAndV, tOrV, tNotV, tSl, tPart, tNoPart, tM1, gTup, gCons, gNil, cxK, cxnK, List.map_cons, List.map_nil, List.length_cons, List.length_nil, List.replicate, List.cons_append, List.nil_append, List.append_nil, List.set_cons_zero, List.set_cons_succ, List.getElem?_cons_zero, List.getElem?_cons_succ, Option.some.injEq, V.ref.injEq, V.int.injEq, V.str.injEq, V.bl.injEq, V.ty.injEq, exists_eq_left', exists_eq_left, exists_and_left, List.cons.injEq, and_true, true_and, sc_ii, sc_ss, sc_bb, sc_ni, sc_in, sc_is, sc_si, sc_nn, decide_true, decide_false, reduceCtorEq, Bool.false_eq_true, if_true, if_false, ite_true, ite_false, exists_const, eq_self, false_and, and_false, or_false, false_or, exists_false, Evl.rLenS, rSum, wipe, tYes, exists_eq, exists_eq', rIxL, rIxT, rIxS, exists_and_right, gt_iff_lt, not_true_eq_false, not_false_eq_true, Bool.not_true, Bool.not_false, decide_eq_true_eq, Nat.reduceSub, Nat.reduceAdd, List.append_assoc, tChain, tDIn, tDNotIn, sDDel, tAug, ipI, tFld, tMeth]
    refine ⟨TC, dx, _, ho, C.cl, C.n2, _, rfl, start, start, rfl, ?_⟩
    rw [decide_eq_true rfl]
    try simp only [tSeq, tIfS, tTest, tOp, tUn, tCB, tCons, tNil, tVar, tC, rI0, rI, rU, rEq, rNe, tRet, tRetN, tAsg, gName, gSub, tBM, tBM0, tNext, tB, tNot, tAnd, tOr, tIf, tCall, tDrop, tBreak, tCont, L2.start, tDGet, sDPut, tTup, tLst, tDNewK, tRevL, rCat, rAppend, rPop, rSetL, tAndV, tOrV, tNotV, tSl, tPart, tNoPart, tM1, gTup, gCons, gNil, cxK, cxnK, List.map_cons, List.map_nil, List.length_cons, List.length_nil, List.replicate, List.cons_append, List.nil_append, List.append_nil, List.set_cons_zero, List.set_cons_succ, List.getElem?_cons_zero, List.getElem?_cons_succ, Option.some.injEq, V.ref.injEq, V.int.injEq, V.str.injEq, V.bl.injEq, V.ty.injEq, exists_eq_left', exists_eq_left, exists_and_left, List.cons.injEq, and_true, true_and, sc_ii, sc_ss, sc_bb, sc_ni, sc_in, sc_is, sc_si, sc_nn, decide_true, decide_false, reduceCtorEq, Bool.false_eq_true, if_true, if_false, ite_true, ite_false, exists_const, eq_self, false_and, and_false, or_false, false_or, exists_false, Evl.rLenS, rSum, wipe, tYes, exists_eq, exists_eq', rIxL, rIxT, rIxS, exists_and_right, gt_iff_lt, not_true_eq_false, not_false_eq_true, Bool.not_true, Bool.not_false, decide_eq_true_eq, Nat.reduceSub, Nat.reduceAdd, List.append_assoc, tChain, tDIn, tDNotIn, sDDel, tAug, ipI, tFld, tMeth]
    refine ⟨dx, _, ho, rfl, t, m, start, rs, rfl, hT, fun nn H1 nnn hnn k1 => ?_⟩
    have en' : rs.map (·.1) = zs := en
    rw [en'] at hnn
    try simp only [tSeq, tIfS, tTest, tOp, tUn, tCB, tCons, tNil, tVar, tC, rI0, rI, rU, rEq, rNe, tRet, tRetN, tAsg, gName, gSub, tBM, tBM0, tNext, tB, tNot, tAnd, tOr, tIf, tCall, tDrop, tBreak, tCont, L2.start, tDGet, sDPut, tTup, tLst, tDNewK, tRevL, rCat, rAppend, rPop, rSetL, tAndV, tOrV, tNotV, tSl, tPart, tNoPart, tM1, gTup, gCons, gNil, cxK, cxnK, List.map_cons, List.map_nil, List.length_cons, List.length_nil, List.replicate, List.cons_append, List.nil_append, List.append_nil, List.set_cons_zero, List.set_cons_succ, List.getElem?_cons_zero, List.getElem?_cons_succ, Option.some.injEq, V.ref.injEq, V.int.injEq, V.str.injEq, V.bl.injEq, V.ty.injEq, exists_eq_left', exists_eq_left, exists_and_left, List.cons.injEq, and_true, true_and, sc_ii, sc_ss, sc_bb, sc_ni, sc_in, sc_is, sc_si, sc_nn, decide_true, decide_false, reduceCtorEq, Bool.false_eq_true, if_true, if_false, ite_true, ite_false, exists_const, eq_self, false_and, and_false, or_false, false_or, exists_false, Evl.rLenS, rSum, wipe, tYes, exists_eq, exists_eq', rIxL, rIxT, rIxS, exists_and_right, gt_iff_lt, not_true_eq_false, not_false_eq_true, Bool.not_true, Bool.not_false, decide_eq_true_eq, Nat.reduceSub, Nat.reduceAdd, List.append_assoc, tChain, tDIn, tDNotIn, sDDel, tAug, ipI]
    refine isi_mk (b := true) (.lst hnn) (by decide +kernel) ?_
    try simp only [tSeq, tIfS, tTest, tOp, tUn, tCB, tCons, tNil, tVar, tC, rI0, rI, rU, rEq, rNe, tRet, tRetN, tAsg, gName, gSub, tBM, tBM0, tNext, tB, tNot, tAnd, tOr, tIf, tCall, tDrop, tBreak, tCont, L2.start, tDGet, sDPut, tTup, tLst, tDNewK, tRevL, rCat, rAppend, rPop, rSetL, tAndV, tOrV, tNotV, tSl, tPart, tNoPart, tM1, gTup, gCons, gNil, cxK, cxnK, List.map_cons, List.map_nil, List.length_cons, List.length_nil, List.replicate, List.cons_append, List.nil_append, List.append_nil, List.set_cons_zero, List.set_cons_succ, List.getElem?_cons_zero, List.getElem?_cons_succ, Option.some.injEq, V.ref.injEq, V.int.injEq, V.str.injEq, V.bl.injEq, V.ty.injEq, exists_eq_left', exists_eq_left, exists_and_left, List.cons.injEq, and_true, true_and, sc_ii, sc_ss, sc_bb, sc_ni, sc_in, sc_is, sc_si, sc_nn, decide_true, decide_false, reduceCtorEq, Bool.false_eq_true, if_true, if_false, ite_true, ite_false, exists_const, eq_self, false_and, and_false, or_false, false_or, exists_false, Evl.rLenS, rSum, wipe, tYes, exists_eq, exists_eq', rIxL, rIxT, rIxS, exists_and_right, gt_iff_lt, not_true_eq_false, not_false_eq_true, Bool.not_true, Bool.not_false, decide_eq_true_eq, Nat.reduceSub, Nat.reduceAdd, List.append_assoc, tChain, tDIn, tDNotIn, sDDel, tAug, ipI]
    have hn1 := k1 _ _ not0 hn
    have nms : ∀ z ∈ zs, nameS z = true := by rw [← en]; exact bT.2.2.1
    have sh := shaped_names nms
    refine ⟨.list (zs.map PyData.str), .list (zs.map PyData.str), .lst (sq_l hnn) (dpStrs zs), .lst (sq_l hn1) (dpStrs zs), sh, sh, ?_⟩
    rw [SeqAt.eqv_refl _ (SeqAt.canLay_of_shaped sh)]
    try simp only [tSeq, tIfS, tTest, tOp, tUn, tCB, tCons, tNil, tVar, tC, rI0, rI, rU, rEq, rNe, tRet, tRetN, tAsg, gName, gSub, tBM, tBM0, tNext, tB, tNot, tAnd, tOr, tIf, tCall, tDrop, tBreak, tCont, L2.start, tDGet, sDPut, tTup, tLst, tDNewK, tRevL, rCat, rAppend, rPop, rSetL, tAndV, tOrV, tNotV, tSl, tPart, tNoPart, tM1, gTup, gCons, gNil, cxK, cxnK, List.map_cons, List.map_nil, List.length_cons, List.length_nil, List.replicate, List.cons_append, List.nil_append, List.append_nil, List.set_cons_zero, List.set_cons_succ, List.getElem?_cons_zero, List.getElem?_cons_succ, Option.some.injEq, V.ref.injEq, V.int.injEq, V.str.injEq, V.bl.injEq, V.ty.injEq, exists_eq_left', exists_eq_left, exists_and_left, List.cons.injEq, and_true, true_and, sc_ii, sc_ss, sc_bb, sc_ni, sc_in, sc_is, sc_si, sc_nn, decide_true, decide_false, reduceCtorEq, Bool.false_eq_true, if_true, if_false, ite_true, ite_false, exists_const, eq_self, false_and, and_false, or_false, false_or, exists_false, Evl.rLenS, rSum, wipe, tYes, exists_eq, exists_eq', rIxL, rIxT, rIxS, exists_and_right, gt_iff_lt, not_true_eq_false, not_false_eq_true, Bool.not_true, Bool.not_false, decide_eq_true_eq, Nat.reduceSub, Nat.reduceAdd, List.append_assoc, tChain, tDIn, tDNotIn, sDDel, tAug, ipI]
    refine ⟨.ref nl, rfl, nl, rfl, ⟨_, sq_l hn1⟩, for_list (K := K) (a := nl) (xs := zs.map V.str) (fun i σ H' => ∃ c6 c7 c8 c9, σ = [some (.ref t), some (.ref nl), some (.ref d), some (.int start), some (.int (m : Nat)), some (.ref nn), c6, c7, c8, c9] ∧ Kp [] H H') ⟨_, _, _, _, rfl, k1⟩ (fun i σ H' _ h => by obtain ⟨_, _, _, _, _, k⟩ := h; exact k.ls not0 (sq_l hn)) ?_ ?_⟩
    · rintro i x σ H2 hx ⟨c6, c7, c8, c9, rfl, k2⟩
      obtain ⟨z, ez, rfl⟩ : ∃ z, zs[i]? = some z ∧ V.str z = x := by
        rw [List.getElem?_map] at hx
        cases e : zs[i]? with
        | none => rw [e] at hx; cases hx
        | some z => rw [e] at hx; exact ⟨z, rfl, Option.some.inj hx⟩
      have hz := List.mem_of_getElem? ez
      refine forRg m (fun j σ H' => ∃ c7 c8 c9, σ = [some (.ref t), some (.ref nl), some (.ref d), some (.int start), some (.int (m : Nat)), some (.ref nn), some (.str z), c7, c8, c9] ∧ Kp [] H H') ?_ (by omega) (by omega) ⟨_, _, _, rfl, k2⟩ ?_ ?_
      · intro R q'
        exact ⟨_, rfl, q'⟩
      · rintro j σ H3 hj ⟨c7, c8, c9, rfl, k3⟩
        try simp only [tSeq, tIfS, tTest, tOp, tUn, tCB, tCons, tNil, tVar, tC, rI0, rI, rU, rEq, rNe, tRet, tRetN, tAsg, gName, gSub, tBM, tBM0, tNext, tB, tNot, tAnd, tOr, tIf, tCall, tDrop, tBreak, tCont, L2.start, tDGet, sDPut, tTup, tLst, tDNewK, tRevL, rCat, rAppend, rPop, rSetL, tAndV, tOrV, tNotV, tSl, tPart, tNoPart, tM1, gTup, gCons, gNil, cxK, cxnK, List.map_cons, List.map_nil, List.length_cons, List.length_nil, List.replicate, List.cons_append, List.nil_append, List.append_nil, List.set_cons_zero, List.set_cons_succ, List.getElem?_cons_zero, List.getElem?_cons_succ, Option.some.injEq, V.ref.injEq, V.int.injEq, V.str.injEq, V.bl.injEq, V.ty.injEq, exists_eq_left', exists_eq_left, exists_and_left, List.cons.injEq, and_true, true_and, sc_ii, sc_ss, sc_bb, sc_ni, sc_in, sc_is, sc_si, sc_nn, decide_true, decide_false, reduceCtorEq, Bool.false_eq_true, if_true, if_false, ite_true, ite_false, exists_const, eq_self, false_and, and_false, or_false, false_or, exists_false, Evl.rLenS, rSum, wipe, tYes, exists_eq, exists_eq', rIxL, rIxT, rIxS, exists_and_right, gt_iff_lt, not_true_eq_false, not_false_eq_true, Bool.not_true, Bool.not_false, decide_eq_true_eq, Nat.reduceSub, Nat.reduceAdd, List.append_assoc, tChain, tDIn, tDNotIn, sDDel, tAug, ipI, tCallO]
        have hT3 := hT.kp k3
        obtain ⟨kv3, l3, xs3, hd3, ev3, hl3, hc3⟩ := (hd.kp k3).get nd hz
        obtain ⟨p2, e2, hp2⟩ := hc3.2 j hj
        have hasT : hasD rs (.str z) = true := by
          show (nameS z && decide (z ∈ rs.map (·.1))) = true
          rw [nms z hz, en', decide_eq_true hz]; rfl
        have szz : szD (.str z) = true := by
          have h8 := nms z hz
          unfold nameS at h8
          rw [Bool.and_eq_true, Bool.and_eq_true, decide_eq_true_eq, decide_eq_true_eq] at h8
          exact decide_eq_true (by omega)
        refine ⟨.inr ⟨dx, _, k3 _ _ not0 ho⟩, t, .str z, .int (j : Nat), .str z, .int (j : Nat), m, start, rs, rfl, hT3, .str z, szz, .int _, fun z' s' ez' es' hh i0 i1 p H4 hp k4 => ?_, fun hh => by (rw [hasT] at hh; cases hh), fun hh hb => ?_⟩
        · cases ez'
          cases es'
          rw [hc z hz j hj] at hp
          have hp2' := k4 _ _ not0 hp2
          refine ⟨.ref l3, .inl ⟨kv3, Sum.inr z, .inl (k4 _ _ not0 hd3), rfl, ev3.symm⟩, l3, rfl, xs3, sq_l (k4 _ _ not0 hl3), .ref p2, atI_nat e2, isi_mk (b := true) (.tup hp) (by decide +kernel) ?_⟩
          try simp only [tSeq, tIfS, tTest, tOp, tUn, tCB, tCons, tNil, tVar, tC, rI0, rI, rU, rEq, rNe, tRet, tRetN, tAsg, gName, gSub, tBM, tBM0, tNext, tB, tNot, tAnd, tOr, tIf, tCall, tDrop, tBreak, tCont, L2.start, tDGet, sDPut, tTup, tLst, tDNewK, tRevL, rCat, rAppend, rPop, rSetL, tAndV, tOrV, tNotV, tSl, tPart, tNoPart, tM1, gTup, gCons, gNil, cxK, cxnK, List.map_cons, List.map_nil, List.length_cons, List.length_nil, List.replicate, List.cons_append, List.nil_append, List.append_nil, List.set_cons_zero, List.set_cons_succ, List.getElem?_cons_zero, List.getElem?_cons_succ, Option.some.injEq, V.ref.injEq, V.int.injEq, V.str.injEq, V.bl.injEq, V.ty.injEq, exists_eq_left', exists_eq_left, exists_and_left, List.cons.injEq, and_true, true_and, sc_ii, sc_ss, sc_bb, sc_ni, sc_in, sc_is, sc_si, sc_nn, decide_true, decide_false, reduceCtorEq, Bool.false_eq_true, if_true, if_false, ite_true, ite_false, exists_const, eq_self, false_and, and_false, or_false, false_or, exists_false, Evl.rLenS, rSum, wipe, tYes, exists_eq, exists_eq', rIxL, rIxT, rIxS, exists_and_right, gt_iff_lt, not_true_eq_false, not_false_eq_true, Bool.not_true, Bool.not_false, decide_eq_true_eq, Nat.reduceSub, Nat.reduceAdd, List.append_assoc, tChain, tDIn, tDNotIn, sDDel, tAug, ipI]
          refine ⟨_, .inr (sq_t hp), ?_⟩
          have e22 : (((([V.int (c z j).1, .int (c z j).2] : List V).length : Nat) : Int) = 2) = True := eq_true rfl
          try simp only [tSeq, tIfS, tTest, tOp, tUn, tCB, tCons, tNil, tVar, tC, rI0, rI, rU, rEq, rNe, tRet, tRetN, tAsg, gName, gSub, tBM, tBM0, tNext, tB, tNot, tAnd, tOr, tIf, tCall, tDrop, tBreak, tCont, L2.start, tDGet, sDPut, tTup, tLst, tDNewK, tRevL, rCat, rAppend, rPop, rSetL, tAndV, tOrV, tNotV, tSl, tPart, tNoPart, tM1, gTup, gCons, gNil, cxK, cxnK, List.map_cons, List.map_nil, List.length_cons, List.length_nil, List.replicate, List.cons_append, List.nil_append, List.append_nil, List.set_cons_zero, List.set_cons_succ, List.getElem?_cons_zero, List.getElem?_cons_succ, Option.some.injEq, V.ref.injEq, V.int.injEq, V.str.injEq, V.bl.injEq, V.ty.injEq, exists_eq_left', exists_eq_left, exists_and_left, List.cons.injEq, and_true, true_and, sc_ii, sc_ss, sc_bb, sc_ni, sc_in, sc_is, sc_si, sc_nn, decide_true, decide_false, reduceCtorEq, Bool.false_eq_true, if_true, if_false, ite_true, ite_false, exists_const, eq_self, false_and, and_false, or_false, false_or, exists_false, Evl.rLenS, rSum, wipe, tYes, exists_eq, exists_eq', rIxL, rIxT, rIxS, exists_and_right, gt_iff_lt, not_true_eq_false, not_false_eq_true, Bool.not_true, Bool.not_false, decide_eq_true_eq, Nat.reduceSub, Nat.reduceAdd, List.append_assoc, tChain, tDIn, tDNotIn, sDDel, tAug, ipI, e22]
          refine ⟨_, sq_t hp, .int (c z j).1, rfl, _, sq_t hp2', .int (c z j).1, rfl, _, _, rfl, ?_⟩
          rw [decide_eq_true rfl]
          try simp only [tSeq, tIfS, tTest, tOp, tUn, tCB, tCons, tNil, tVar, tC, rI0, rI, rU, rEq, rNe, tRet, tRetN, tAsg, gName, gSub, tBM, tBM0, tNext, tB, tNot, tAnd, tOr, tIf, tCall, tDrop, tBreak, tCont, L2.start, tDGet, sDPut, tTup, tLst, tDNewK, tRevL, rCat, rAppend, rPop, rSetL, tAndV, tOrV, tNotV, tSl, tPart, tNoPart, tM1, gTup, gCons, gNil, cxK, cxnK, List.map_cons, List.map_nil, List.length_cons, List.length_nil, List.replicate, List.cons_append, List.nil_append, List.append_nil, List.set_cons_zero, List.set_cons_succ, List.getElem?_cons_zero, List.getElem?_cons_succ, Option.some.injEq, V.ref.injEq, V.int.injEq, V.str.injEq, V.bl.injEq, V.ty.injEq, exists_eq_left', exists_eq_left, exists_and_left, List.cons.injEq, and_true, true_and, sc_ii, sc_ss, sc_bb, sc_ni, sc_in, sc_is, sc_si, sc_nn, decide_true, decide_false, reduceCtorEq, Bool.false_eq_true, if_true, if_false, ite_true, ite_false, exists_const, eq_self, false_and, and_false, or_false, false_or, exists_false, Evl.rLenS, rSum, wipe, tYes, exists_eq, exists_eq', rIxL, rIxT, rIxS, exists_and_right, gt_iff_lt, not_true_eq_false, not_false_eq_true, Bool.not_true, Bool.not_false, decide_eq_true_eq, Nat.reduceSub, Nat.reduceAdd, List.append_assoc, tChain, tDIn, tDNotIn, sDDel, tAug, ipI]
          refine ⟨_, sq_t hp, .int (c z j).2, rfl, _, sq_t hp2', .int (c z j).2, rfl, _, _, rfl, ?_⟩
          rw [decide_eq_true rfl]
          try simp only [tSeq, tIfS, tTest, tOp, tUn, tCB, tCons, tNil, tVar, tC, rI0, rI, rU, rEq, rNe, tRet, tRetN, tAsg, gName, gSub, tBM, tBM0, tNext, tB, tNot, tAnd, tOr, tIf, tCall, tDrop, tBreak, tCont, L2.start, tDGet, sDPut, tTup, tLst, tDNewK, tRevL, rCat, rAppend, rPop, rSetL, tAndV, tOrV, tNotV, tSl, tPart, tNoPart, tM1, gTup, gCons, gNil, cxK, cxnK, List.map_cons, List.map_nil, List.length_cons, List.length_nil, List.replicate, List.cons_append, List.nil_append, List.append_nil, List.set_cons_zero, List.set_cons_succ, List.getElem?_cons_zero, List.getElem?_cons_succ, Option.some.injEq, V.ref.injEq, V.int.injEq, V.str.injEq, V.bl.injEq, V.ty.injEq, exists_eq_left', exists_eq_left, exists_and_left, List.cons.injEq, and_true, true_and, sc_ii, sc_ss, sc_bb, sc_ni, sc_in, sc_is, sc_si, sc_nn, decide_true, decide_false, reduceCtorEq, Bool.false_eq_true, if_true, if_false, ite_true, ite_false, exists_const, eq_self, false_and, and_false, or_false, false_or, exists_false, Evl.rLenS, rSum, wipe, tYes, exists_eq, exists_eq', rIxL, rIxT, rIxS, exists_and_right, gt_iff_lt, not_true_eq_false, not_false_eq_true, Bool.not_true, Bool.not_false, decide_eq_true_eq, Nat.reduceSub, Nat.reduceAdd, List.append_assoc, tChain, tDIn, tDNotIn, sDDel, tAug, ipI]
          exact k3.trans k4
        · have : (decide (0 ≤ (j : Int)) && decide ((j : Int) < (m : Nat))) = false := hb
          rw [decide_eq_true (by omega), decide_eq_true (by omega)] at this
          cases this
      · rintro σ H3 ⟨c7, c8, c9, rfl, k3⟩
        exact ⟨_, _, _, _, rfl, k3⟩
    · rintro σ H2 ⟨c6, c7, c8, c9, rfl, k2⟩
      try simp only [tSeq, tIfS, tTest, tOp, tUn, tCB, tCons, tNil, tVar, tC, rI0, rI, rU, rEq, rNe, tRet, tRetN, tAsg, gName, gSub, tBM, tBM0, tNext, tB, tNot, tAnd, tOr, tIf, tCall, tDrop, tBreak, tCont, L2.start, tDGet, sDPut, tTup, tLst, tDNewK, tRevL, rCat, rAppend, rPop, rSetL, tAndV, tOrV, tNotV, tSl, tPart, tNoPart, tM1, gTup, gCons, gNil, cxK, cxnK, List.map_cons, List.map_nil, List.length_cons, List.length_nil, List.replicate, List.cons_append, List.nil_append, List.append_nil, List.set_cons_zero, List.set_cons_succ, List.getElem?_cons_zero, List.getElem?_cons_succ, Option.some.injEq, V.ref.injEq, V.int.injEq, V.str.injEq, V.bl.injEq, V.ty.injEq, exists_eq_left', exists_eq_left, exists_and_left, List.cons.injEq, and_true, true_and, sc_ii, sc_ss, sc_bb, sc_ni, sc_in, sc_is, sc_si, sc_nn, decide_true, decide_false, reduceCtorEq, Bool.false_eq_true, if_true, if_false, ite_true, ite_false, exists_const, eq_self, false_and, and_false, or_false, false_or, exists_false, Evl.rLenS, rSum, wipe, tYes, exists_eq, exists_eq', rIxL, rIxT, rIxS, exists_and_right, gt_iff_lt, not_true_eq_false, not_false_eq_true, Bool.not_true, Bool.not_false, decide_eq_true_eq, Nat.reduceSub, Nat.reduceAdd, List.append_assoc, tChain, tDIn, tDNotIn, sDDel, tAug, ipI]
      exact q H2 k2
end
end My

set_option Elab.async false
set_option linter.all false
set_option maxRecDepth 100000
set_option maxHeartbeats 4000000
namespace My
open PySem L2 NdefX StX
def walkC (c : Str → Nat → Int × Int) : Int → List Str → List Int
  | _, [] => []
  | s, z :: zs => (c z s.toNat).1 :: walkC c (c z s.toNat).2 zs
def stateC (c : Str → Nat → Int × Int) : Int → List Str → Int
  | s, [] => s
  | s, z :: zs => stateC c (c z s.toNat).2 zs
theorem walkC_snoc (c : Str → Nat → Int × Int) : ∀ (s : Int) (zs : List Str) (z : Str), walkC c s (zs ++ [z]) = walkC c s zs ++ [(c z (stateC c s zs).toNat).1] ∧ stateC c s (zs ++ [z]) = (c z (stateC c s zs).toNat).2
  | s, [], z => ⟨rfl, rfl⟩
  | s, y :: ys, z => by
    obtain ⟨a, b⟩ := walkC_snoc c (c y s.toNat).2 ys z
    constructor
    · show (c y s.toNat).1 :: walkC c (c y s.toNat).2 (ys ++ [z]) = _
      rw [a]; rfl
    · exact b
theorem walkC_len (c : Str → Nat → Int × Int) : ∀ (s : Int) (zs : List Str), (walkC c s zs).length = zs.length
  | _, [] => rfl
  | s, z :: zs => by
    show (walkC c _ zs).length + 1 = zs.length + 1
    rw [walkC_len]
theorem stateC_ok {zs : List Str} {m : Nat} {most : Int} {c : Str → Nat → Int × Int} (h : CellB zs m most c) : ∀ {cs : List Str} {s : Int}, (∀ z ∈ cs, z ∈ zs) → 0 ≤ s → s < m → 0 ≤ stateC c s cs ∧ stateC c s cs < m
  | [], s, _, s0, s1 => ⟨s0, s1⟩
  | z :: cs, s, hz, s0, s1 => by
    have := (h z (hz z List.mem_cons_self) s.toNat (by omega)).2
    exact stateC_ok (cs := cs) (s := (c z s.toNat).2) h (fun y hy => hz y (List.mem_cons_of_mem _ hy)) this.1 this.2
theorem walk_same {rs : List (Str × PyData)} {zs : List Str} {m : Nat} {most : Int} {c : Str → Nat → Int × Int} (h : CellB zs m most c) (e : ∀ z ∈ zs, ∀ s : Nat, s < m → cellOf rs z s = c z s) : ∀ {cs : List Str} {s : Int}, (∀ z ∈ cs, z ∈ zs) → 0 ≤ s → s < m → walkR rs s cs = walkC c s cs
  | [], s, _, _, _ => rfl
  | z :: cs, s, hz, s0, s1 => by
    have z0 := hz z List.mem_cons_self
    have e1 := e z z0 s.toNat (by omega)
    rw [Int.toNat_of_nonneg s0] at e1
    have b := (h z z0 s.toNat (by omega)).2
    show (cellOf rs z s).1 :: walkR rs (cellOf rs z s).2 cs = (c z s.toNat).1 :: walkC c (c z s.toNat).2 cs
    rw [e1, walk_same (cs := cs) h e (fun y hy => hz y (List.mem_cons_of_mem _ hy)) b.1 b.2]
section
variable {P : Program} {w : World} {K : PySem.W.Frag} {mg : Str → Option Value} {base : Heap}
def spWalk : Sp := fun vs H Q _ => ∃ (d cl m : Nat) (start : Int) (zs cs : List Str) (c : Str → Nat → Int × Int), vs = [.ref d, .int start, .ref cl] ∧ RwAt H d zs m c ∧ CellB zs m 10 c ∧ zs.Nodup ∧ 0 ≤ start ∧ start < m ∧ H cl = some (.lst (cs.map V.str)) ∧ cs.length ≤ 1000 ∧ (∀ z ∈ cs, z ∈ zs) ∧
  ∀ (r : Addr) (H' : Hp), H r = none → H' r = some (.lst ((walkC c start cs).map V.int)) → Kp [] H H' → Q (.ref r) H'
theorem ok_law_walk {f : Addr} {fd : FuncData} (D : Df K mg "_law_walk" s_law_walk ["_law_rows_here", "_law_start", "_law_calls_here"] f fd) (T : BtD mg) : FnOk P w K mg base CX0 1 f fd ["_law_rows_here", "_law_start", "_law_calls_here"] spWalk := by
  refine D.F.ok sc_law_walk (fun vs H Q E h => ?_) (fun cdv A outer s H vs Q E hr h => ?_)
  · obtain ⟨d, cl, m, start, zs, cs, c, rfl, _⟩ := h
    rfl
  · obtain ⟨d, cl, m, start, zs, cs, c, rfl, hd, hb, nd, s0, s1, hcl, c1, hz, q⟩ := h
    have hu := hu_of hr
    refine ⟨_, (pss_cons (ps_set (i := 3) sc_law_walk.nd rfl (Or.inl rfl) (pv 1))
      (pss_cons (ps_set (i := 4) sc_law_walk.nd rfl (Or.inl rfl) (pe_lst pa_nil))
      (pss_cons (ps_for PassesOwn.never rfl (pi_list (pv 2)) (pg_name (i := 5) sc_law_walk.nd rfl (Or.inl rfl)) (pss_cons (ps_set (i := 6) sc_law_walk.nd rfl (Or.inl rfl) (pe_ix (r := rIxL K) ix_list (pe_dget hu (pv 0) (pv 5) (fun _ _ => rfl)) (pv 3) (fun _ _ => rfl)))
      (pss_cons (ps_expr (pe_bm PySem.F.plainAttrs_list PySem.F.slot_list_append PySem.F.type_list_append mt_append (pv 4) (pa_cons (pe_ix (r := rIxT K) ix_tup (pv 6) pe_int (fun _ _ => rfl)) pa_nil)))
      (pss_one (ps_set (i := 3) sc_law_walk.nd rfl (Or.inl rfl) (pe_ix (r := rIxT K) ix_tup (pv 6) pe_int (fun _ _ => rfl)))))))
      (pss_one (ps_ret (pv 4)))))), ?_⟩
    try simp only [tSeq, tIfS, tTest, tOp, tUn, tCB, tCons, tNil, tVar, tC, rI0, rI, rU, rEq, rNe, tRet, tRetN, tAsg, gName, gSub, tBM, tBM0, tNext, tB, tNot, tAnd, tOr, tIf, tCall, tDrop, tBreak, tCont, L2.start, tDGet, sDPut, tTup, tLst, tDNewK, tRevL, rCat, rAppend, rPop, rSetL, tAndV, tOrV, tNotV, tSl, tPart, tNoPart, tM1, gTup, gCons, gNil, cxK, cxnK, List.map_cons, List.map_nil, List.length_cons, List.length_nil, List.replicate, List.cons_append, List.nil_append, List.append_nil, List.set_cons_zero, List.set_cons_succ, List.getElem?_cons_zero, List.getElem?_cons_succ, Option.some.injEq, V.ref.injEq, V.int.injEq, V.str.injEq, V.bl.injEq, V.ty.injEq, exists_eq_left', exists_eq_left, exists_and_left, List.cons.injEq, and_true, true_and, sc_ii, sc_ss, sc_bb, sc_ni, sc_in, sc_is, sc_si, sc_nn, decide_true, decide_false, reduceCtorEq, Bool.false_eq_true, if_true, if_false, ite_true, ite_false, exists_const, eq_self, false_and, and_false, or_false, false_or, exists_false, Evl.rLenS, rSum, wipe, tYes, exists_eq, exists_eq', rIxL, rIxT, rIxS, exists_and_right, gt_iff_lt, not_true_eq_false, not_false_eq_true, Bool.not_true, Bool.not_false, decide_eq_true_eq, Nat.reduceSub, Nat.reduceAdd, List.append_assoc, tChain, tDIn, tDNotIn, sDDel, tAug, ipI]
    refine ⟨Nat.zero_le _, fun r nr => ?_⟩
    have kr : Kp [] H (upd H r (.lst [])) := Kp.new nr
    refine ⟨.ref cl, rfl, cl, rfl, ⟨_, sq_l (kr _ _ not0 hcl)⟩, for_list (K := K) (a := cl) (xs := cs.map V.str) (fun i σ H' => ∃ c5 c6, σ = [some (.ref d), some (.int start), some (.ref cl), some (.int (stateC c start (cs.take i))), some (.ref r), c5, c6] ∧ H' r = some (.lst ((walkC c start (cs.take i)).map V.int)) ∧ Kp [] H H') ⟨none, none, rfl, upd_same, kr⟩ (fun i σ H' _ h => by obtain ⟨_, _, _, _, k⟩ := h; exact k.ls not0 (sq_l hcl)) ?_ ?_⟩
    · rintro i x σ H1 hx ⟨c5, c6, rfl, hr1, k1⟩
      obtain ⟨z, ez, rfl⟩ : ∃ z, cs[i]? = some z ∧ V.str z = x := by
        rw [List.getElem?_map] at hx
        cases e : cs[i]? with
        | none => rw [e] at hx; cases hx
        | some z => rw [e] at hx; exact ⟨z, rfl, Option.some.inj hx⟩
      have st := stateC_ok hb (cs := cs.take i) (fun y hy => hz y (List.mem_of_mem_take hy)) s0 s1
      obtain ⟨kvs, l, xs, hd1, ev, hl, hc⟩ := (hd.kp k1).get nd (hz z (List.mem_of_getElem? ez))
      obtain ⟨p, ep, hp⟩ := hc.2 (stateC c start (cs.take i)).toNat (by omega)
      have wz := walkC_snoc c start (cs.take i) z
      have wl : ((walkC c start (cs.take i)).map V.int).length < sizeLine := smallL (by rw [List.length_map, walkC_len, List.length_take]; omega)
      have pr : p ≠ r := fun e => by rw [e, hr1] at hp; cases hp
      try simp only [tSeq, tIfS, tTest, tOp, tUn, tCB, tCons, tNil, tVar, tC, rI0, rI, rU, rEq, rNe, tRet, tRetN, tAsg, gName, gSub, tBM, tBM0, tNext, tB, tNot, tAnd, tOr, tIf, tCall, tDrop, tBreak, tCont, L2.start, tDGet, sDPut, tTup, tLst, tDNewK, tRevL, rCat, rAppend, rPop, rSetL, tAndV, tOrV, tNotV, tSl, tPart, tNoPart, tM1, gTup, gCons, gNil, cxK, cxnK, List.map_cons, List.map_nil, List.length_cons, List.length_nil, List.replicate, List.cons_append, List.nil_append, List.append_nil, List.set_cons_zero, List.set_cons_succ, List.getElem?_cons_zero, List.getElem?_cons_succ, Option.some.injEq, V.ref.injEq, V.int.injEq, V.str.injEq, V.bl.injEq, V.ty.injEq, exists_eq_left', exists_eq_left, exists_and_left, List.cons.injEq, and_true, true_and, sc_ii, sc_ss, sc_bb, sc_ni, sc_in, sc_is, sc_si, sc_nn, decide_true, decide_false, reduceCtorEq, Bool.false_eq_true, if_true, if_false, ite_true, ite_false, exists_const, eq_self, false_and, and_false, or_false, false_or, exists_false, Evl.rLenS, rSum, wipe, tYes, exists_eq, exists_eq', rIxL, rIxT, rIxS, exists_and_right, gt_iff_lt, not_true_eq_false, not_false_eq_true, Bool.not_true, Bool.not_false, decide_eq_true_eq, Nat.reduceSub, Nat.reduceAdd, List.append_assoc, tChain, tDIn, tDNotIn, sDDel, tAug, ipI]
      refine ⟨.ref l, .inl ⟨kvs, Sum.inr z, .inl hd1, rfl, ev.symm⟩, l, rfl, xs, sq_l hl, .ref p, atI_of st.1 ep, .inl ⟨rfl, _, sq_l hr1⟩, p, rfl, _, sq_t hp, _, rfl, _, hr1, wl, p, rfl, _, sq_t (by rw [upd_ne pr]; exact hp), _, rfl, ?_, ?_, k1.wr nr⟩
      · rw [take_snoc ez, wz.2]
      · rw [take_snoc ez, wz.1, upd_same, List.map_append]; rfl
    · rintro σ H1 ⟨c5, c6, rfl, hr1, k1⟩
      rw [List.length_map, List.take_length] at hr1
      try simp only [tSeq, tIfS, tTest, tOp, tUn, tCB, tCons, tNil, tVar, tC, rI0, rI, rU, rEq, rNe, tRet, tRetN, tAsg, gName, gSub, tBM, tBM0, tNext, tB, tNot, tAnd, tOr, tIf, tCall, tDrop, tBreak, tCont, L2.start, tDGet, sDPut, tTup, tLst, tDNewK, tRevL, rCat, rAppend, rPop, rSetL, tAndV, tOrV, tNotV, tSl, tPart, tNoPart, tM1, gTup, gCons, gNil, cxK, cxnK, List.map_cons, List.map_nil, List.length_cons, List.length_nil, List.replicate, List.cons_append, List.nil_append, List.append_nil, List.set_cons_zero, List.set_cons_succ, List.getElem?_cons_zero, List.getElem?_cons_succ, Option.some.injEq, V.ref.injEq, V.int.injEq, V.str.injEq, V.bl.injEq, V.ty.injEq, exists_eq_left', exists_eq_left, exists_and_left, List.cons.injEq, and_true, true_and, sc_ii, sc_ss, sc_bb, sc_ni, sc_in, sc_is, sc_si, sc_nn, decide_true, decide_false, reduceCtorEq, Bool.false_eq_true, if_true, if_false, ite_true, ite_false, exists_const, eq_self, false_and, and_false, or_false, false_or, exists_false, Evl.rLenS, rSum, wipe, tYes, exists_eq, exists_eq', rIxL, rIxT, rIxS, exists_and_right, gt_iff_lt, not_true_eq_false, not_false_eq_true, Bool.not_true, Bool.not_false, decide_eq_true_eq, Nat.reduceSub, Nat.reduceAdd, List.append_assoc, tChain, tDIn, tDNotIn, sDDel, tAug, ipI]
      exact q r H1 nr hr1 k1
def spAnswers (TC : Addr) : Sp := fun vs H Q _ => ∃ (t d cl : Addr) (m : Nat) (start : Int) (zs cs : List Str) (c : Str → Nat → Int × Int), vs = [.ref t, .ref d, .int start, .ref cl] ∧ TabIs TC H t zs m start c ∧ RwAt H d zs m c ∧ CellB zs m 10 c ∧ H cl = some (.lst (cs.map V.str)) ∧ cs.length ≤ 1000 ∧ (∀ z ∈ cs, z ∈ zs) ∧ ∀ H', Kp [] H H' → Q (.bl true) H'
theorem ok_law_answers {f : Addr} {fd : FuncData} (D : Df K mg "_law_answers" s_law_answers ["_law_table", "_law_rows_here", "_law_start", "_law_calls_here"] f fd) (T : BtD mg) {TC NO fA : Addr} {fdA : FuncData} (C : TbC K mg TC) {fw : Addr} {fdw : FuncData} (D_law_is_whole : Df K mg "_law_is_whole" s_law_is_whole ["_law_told", "_law_due_here"] fw fdw) (G_law_is_whole : FnOk P w K mg base CX0 1 fw fdw ["_law_told", "_law_due_here"] spWhole) {fk : Addr} {fdk : FuncData} (D_law_walk : Df K mg "_law_walk" s_law_walk ["_law_rows_here", "_law_start", "_law_calls_here"] fk fdk) (G_law_walk : FnOk P w K mg base CX0 1 fk fdk ["_law_rows_here", "_law_start", "_law_calls_here"] spWalk)
    (ME_Table_answers : Meth K TC "answers" fA) (bM_Table_answers : Binds K fdA ["self", "calls"] []) (G_Table_answers : FnOk P w K mg base (L2.CX P w) 4 fA fdA ["self", "calls"] (spTA TC NO)) : FnOk P w K mg base CX0 6 f fd ["_law_table", "_law_rows_here", "_law_start", "_law_calls_here"] (spAnswers TC) := by
  refine D.F.ok sc_law_answers (fun vs H Q E h => ?_) (fun cdv A outer s H vs Q E hr h => ?_)
  · obtain ⟨t, d, cl, m, start, zs, cs, c, rfl, _⟩ := h
    rfl
  · obtain ⟨t, d, cl, m, start, zs, cs, c, rfl, ⟨rs, hT, en, hcc⟩, hd, hb, hcl, c1, hz, q⟩ := h
    have hu := hu_of hr
    refine ⟨_, (pss_cons (ps_set (i := 4) sc_law_answers.nd rfl (Or.inl rfl) (pe_callTy call_list_of (by rfl) T.b_list (by decide +kernel) (pa_cons (pv 3) pa_nil)))
      (pss_cons (ps_set (i := 5) sc_law_answers.nd rfl (Or.inl rfl) (pe_meth (pv 0) C.cl ME_Table_answers G_Table_answers (hr.mono (by decide)) bM_Table_answers .nil passL (pa_cons (pv 4) pa_nil)))
      (pss_cons (ps_set (i := 6) sc_law_answers.nd rfl (Or.inl rfl) (pe_call G_law_walk (hr.mono (by decide)) rfl D_law_walk.g D_law_walk.F.kp D_law_walk.b .nil pass0 (pa_cons (pv 1) (pa_cons (pv 2) (pa_cons (pv 3) pa_nil)))))
      (pss_cons (ps_if (PW.pt (pw_or (pt_cmpR (op_neD hr.units) (pv 4) (pv 3) (nomark _)) (pw_or (pt_not (pt_val (pe_callB (id := "isinstance") (r := rIsi K) call_isi (by rfl) T.b_isinstance (by decide +kernel) (pa_cons (pv 5) (pa_cons (pe_bltn (v := .ty "list") (by rfl) T.b_list (by decide +kernel) rfl) pa_nil))))) (pw_or1 (pt_cmpR op_ne (pe_callB (id := "len") (r := Evl.rLenS K) call_len_seq (by rfl) T.b_len PySem.boot_len (pa_cons (pv 5) pa_nil)) (pe_callB (id := "len") (r := Evl.rLenS K) call_len_seq (by rfl) T.b_len PySem.boot_len (pa_cons (pv 6) pa_nil)) (nomark _)))))) (pss_one (ps_ret pe_bl)) pss_nil)
      (pss_cons (ps_for PassesOwn.never rfl (pi_range1 rfl T.b_range (pa_cons (pe_callB (id := "len") (r := Evl.rLenS K) call_len_seq (by rfl) T.b_len PySem.boot_len (pa_cons (pv 6) pa_nil)) pa_nil)) (pg_name (i := 7) sc_law_answers.nd rfl (Or.inl rfl)) (pss_one (ps_if (pt_not (pt_val (pe_call (k := 1) G_law_is_whole (hr.mono (by decide)) rfl D_law_is_whole.g D_law_is_whole.F.kp D_law_is_whole.b .nil pass0 (pa_cons (pe_ix (r := rIxL K) ix_list (pv 5) (pv 7) (fun _ _ => rfl)) (pa_cons (pe_ix (r := rIxL K) ix_list (pv 6) (pv 7) (fun _ _ => rfl)) pa_nil))))) (pss_one (ps_ret pe_bl)) pss_nil)))
      (pss_cons (ps_expr (pe_bm PySem.F.plainAttrs_list PySem.F.slot_list_append PySem.F.type_list_append mt_append (pv 5) (pa_cons pe_int pa_nil)))
      (pss_one (ps_ret pe_bl)))))))), ?_⟩
    try simp only [tSeq, tIfS, tTest, tOp, tUn, tCB, tCons, tNil, tVar, tC, rI0, rI, rU, rEq, rNe, tRet, tRetN, tAsg, gName, gSub, tBM, tBM0, tNext, tB, tNot, tAnd, tOr, tIf, tCall, tDrop, tBreak, tCont, L2.start, tDGet, sDPut, tTup, tLst, tDNewK, tRevL, rCat, rAppend, rPop, rSetL, tAndV, tOrV, tNotV, tSl, tPart, tNoPart, tM1, gTup, gCons, gNil, cxK, cxnK, List.map_cons, List.map_nil, List.length_cons, List.length_nil, List.replicate, List.cons_append, List.nil_append, List.append_nil, List.set_cons_zero, List.set_cons_succ, List.getElem?_cons_zero, List.getElem?_cons_succ, Option.some.injEq, V.ref.injEq, V.int.injEq, V.str.injEq, V.bl.injEq, V.ty.injEq, exists_eq_left', exists_eq_left, exists_and_left, List.cons.injEq, and_true, true_and, sc_ii, sc_ss, sc_bb, sc_ni, sc_in, sc_is, sc_si, sc_nn, decide_true, decide_false, reduceCtorEq, Bool.false_eq_true, if_true, if_false, ite_true, ite_false, exists_const, eq_self, false_and, and_false, or_false, false_or, exists_false, Evl.rLenS, rSum, wipe, tYes, exists_eq, exists_eq', rIxL, rIxT, rIxS, exists_and_right, gt_iff_lt, not_true_eq_false, not_false_eq_true, Bool.not_true, Bool.not_false, decide_eq_true_eq, Nat.reduceSub, Nat.reduceAdd, List.append_assoc, tChain, tDIn, tDNotIn, sDDel, tAug, ipI, tMeth]
    have bT := hT.bnd
    have nd : zs.Nodup := by rw [← en]; exact bT.2.2.2.2.2.2.2
    have nms : ∀ z ∈ zs, nameS z = true := by rw [← en]; exact bT.2.2.1
    have en' : rs.map (·.1) = zs := en
    obtain ⟨dx, dd, ho⟩ := hT.head
    have s0 := bT.2.2.2.2.2.1
    have s1 := bT.2.2.2.2.2.2.1
    have ws : walkR rs start cs = walkC c start cs := walk_same hb hcc hz s0 s1
    refine ⟨_, .inl (sq_l hcl), fun l nl => ?_⟩
    have kl : Kp [] H (upd H l (.lst (cs.map V.str))) := Kp.new nl
    refine ⟨dx, _, kl _ _ not0 ho, rfl, t, l, cs, m, start, rs, rfl, hT.kp kl, upd_same, c1, fun z h => ?_, fun hh r1 H2 nr1 hr1 k2 => ?_, fun i z ez hh _ => ?_⟩
    · have h8 := nms z (hz z h)
      unfold nameS at h8
      rw [Bool.and_eq_true, Bool.and_eq_true, decide_eq_true_eq, decide_eq_true_eq] at h8
      omega
    · rw [ws] at hr1
      have k02 := kl.trans k2
      refine ⟨d, cl, m, start, zs, cs, c, rfl, hd.kp k02, hb, nd, s0, s1, k02 _ _ not0 hcl, c1, hz, fun r2 H3 nr2 hr2 k3 => ?_⟩
      have k03 := k02.trans k3
      have sh : SeqAt.shaped (.list (cs.map PyData.str)) = true := shaped_names fun z h => nms z (hz z h)
      refine ⟨.list (cs.map PyData.str), .list (cs.map PyData.str), .lst (sq_l (k3 _ _ not0 (k2 _ _ not0 upd_same))) (dpStrs cs), .lst (sq_l (k03 _ _ not0 hcl)) (dpStrs cs), sh, sh, ?_⟩
      rw [SeqAt.eqv_refl _ (SeqAt.canLay_of_shaped sh)]
      try simp only [tSeq, tIfS, tTest, tOp, tUn, tCB, tCons, tNil, tVar, tC, rI0, rI, rU, rEq, rNe, tRet, tRetN, tAsg, gName, gSub, tBM, tBM0, tNext, tB, tNot, tAnd, tOr, tIf, tCall, tDrop, tBreak, tCont, L2.start, tDGet, sDPut, tTup, tLst, tDNewK, tRevL, rCat, rAppend, rPop, rSetL, tAndV, tOrV, tNotV, tSl, tPart, tNoPart, tM1, gTup, gCons, gNil, cxK, cxnK, List.map_cons, List.map_nil, List.length_cons, List.length_nil, List.replicate, List.cons_append, List.nil_append, List.append_nil, List.set_cons_zero, List.set_cons_succ, List.getElem?_cons_zero, List.getElem?_cons_succ, Option.some.injEq, V.ref.injEq, V.int.injEq, V.str.injEq, V.bl.injEq, V.ty.injEq, exists_eq_left', exists_eq_left, exists_and_left, List.cons.injEq, and_true, true_and, sc_ii, sc_ss, sc_bb, sc_ni, sc_in, sc_is, sc_si, sc_nn, decide_true, decide_false, reduceCtorEq, Bool.false_eq_true, if_true, if_false, ite_true, ite_false, exists_const, eq_self, false_and, and_false, or_false, false_or, exists_false, Evl.rLenS, rSum, wipe, tYes, exists_eq, exists_eq', rIxL, rIxT, rIxS, exists_and_right, gt_iff_lt, not_true_eq_false, not_false_eq_true, Bool.not_true, Bool.not_false, decide_eq_true_eq, Nat.reduceSub, Nat.reduceAdd, List.append_assoc, tChain, tDIn, tDNotIn, sDDel, tAug, ipI]
      have hr13 := k3 _ _ not0 hr1
      refine isi_mk (b := true) (.lst hr13) (by decide +kernel) ?_
      try simp only [tSeq, tIfS, tTest, tOp, tUn, tCB, tCons, tNil, tVar, tC, rI0, rI, rU, rEq, rNe, tRet, tRetN, tAsg, gName, gSub, tBM, tBM0, tNext, tB, tNot, tAnd, tOr, tIf, tCall, tDrop, tBreak, tCont, L2.start, tDGet, sDPut, tTup, tLst, tDNewK, tRevL, rCat, rAppend, rPop, rSetL, tAndV, tOrV, tNotV, tSl, tPart, tNoPart, tM1, gTup, gCons, gNil, cxK, cxnK, List.map_cons, List.map_nil, List.length_cons, List.length_nil, List.replicate, List.cons_append, List.nil_append, List.append_nil, List.set_cons_zero, List.set_cons_succ, List.getElem?_cons_zero, List.getElem?_cons_succ, Option.some.injEq, V.ref.injEq, V.int.injEq, V.str.injEq, V.bl.injEq, V.ty.injEq, exists_eq_left', exists_eq_left, exists_and_left, List.cons.injEq, and_true, true_and, sc_ii, sc_ss, sc_bb, sc_ni, sc_in, sc_is, sc_si, sc_nn, decide_true, decide_false, reduceCtorEq, Bool.false_eq_true, if_true, if_false, ite_true, ite_false, exists_const, eq_self, false_and, and_false, or_false, false_or, exists_false, Evl.rLenS, rSum, wipe, tYes, exists_eq, exists_eq', rIxL, rIxT, rIxS, exists_and_right, gt_iff_lt, not_true_eq_false, not_false_eq_true, Bool.not_true, Bool.not_false, decide_eq_true_eq, Nat.reduceSub, Nat.reduceAdd, List.append_assoc, tChain, tDIn, tDNotIn, sDDel, tAug, ipI]
      refine ⟨_, .inl (sq_l hr13), _, .inl (sq_l hr2), ?_⟩
      rw [decide_eq_true rfl]
      try simp only [tSeq, tIfS, tTest, tOp, tUn, tCB, tCons, tNil, tVar, tC, rI0, rI, rU, rEq, rNe, tRet, tRetN, tAsg, gName, gSub, tBM, tBM0, tNext, tB, tNot, tAnd, tOr, tIf, tCall, tDrop, tBreak, tCont, L2.start, tDGet, sDPut, tTup, tLst, tDNewK, tRevL, rCat, rAppend, rPop, rSetL, tAndV, tOrV, tNotV, tSl, tPart, tNoPart, tM1, gTup, gCons, gNil, cxK, cxnK, List.map_cons, List.map_nil, List.length_cons, List.length_nil, List.replicate, List.cons_append, List.nil_append, List.append_nil, List.set_cons_zero, List.set_cons_succ, List.getElem?_cons_zero, List.getElem?_cons_succ, Option.some.injEq, V.ref.injEq, V.int.injEq, V.str.injEq, V.bl.injEq, V.ty.injEq, exists_eq_left', exists_eq_left, exists_and_left, List.cons.injEq, and_true, true_and, sc_ii, sc_ss, sc_bb, sc_ni, sc_in, sc_is, sc_si, sc_nn, decide_true, decide_false, reduceCtorEq, Bool.false_eq_true, if_true, if_false, ite_true, ite_false, exists_const, eq_self, false_and, and_false, or_false, false_or, exists_false, Evl.rLenS, rSum, wipe, tYes, exists_eq, exists_eq', rIxL, rIxT, rIxS, exists_and_right, gt_iff_lt, not_true_eq_false, not_false_eq_true, Bool.not_true, Bool.not_false, decide_eq_true_eq, Nat.reduceSub, Nat.reduceAdd, List.append_assoc, tChain, tDIn, tDNotIn, sDDel, tAug, ipI]
      have wl : ((walkC c start cs).map V.int).length < sizeLine := smallL (by rw [List.length_map, walkC_len]; omega)
      have nr10 : H r1 = none := kl.free0 nr1
      refine forRg (walkC c start cs).length (fun j σ H' => ∃ c7, σ = [some (.ref t), some (.ref d), some (.int start), some (.ref cl), some (.ref l), some (.ref r1), some (.ref r2), c7] ∧ H' = H3) ?_ (by omega) (by rw [walkC_len]; omega) ⟨_, rfl, rfl⟩ ?_ ?_
      · intro R q'
        try simp only [tSeq, tIfS, tTest, tOp, tUn, tCB, tCons, tNil, tVar, tC, rI0, rI, rU, rEq, rNe, tRet, tRetN, tAsg, gName, gSub, tBM, tBM0, tNext, tB, tNot, tAnd, tOr, tIf, tCall, tDrop, tBreak, tCont, L2.start, tDGet, sDPut, tTup, tLst, tDNewK, tRevL, rCat, rAppend, rPop, rSetL, tAndV, tOrV, tNotV, tSl, tPart, tNoPart, tM1, gTup, gCons, gNil, cxK, cxnK, List.map_cons, List.map_nil, List.length_cons, List.length_nil, List.replicate, List.cons_append, List.nil_append, List.append_nil, List.set_cons_zero, List.set_cons_succ, List.getElem?_cons_zero, List.getElem?_cons_succ, Option.some.injEq, V.ref.injEq, V.int.injEq, V.str.injEq, V.bl.injEq, V.ty.injEq, exists_eq_left', exists_eq_left, exists_and_left, List.cons.injEq, and_true, true_and, sc_ii, sc_ss, sc_bb, sc_ni, sc_in, sc_is, sc_si, sc_nn, decide_true, decide_false, reduceCtorEq, Bool.false_eq_true, if_true, if_false, ite_true, ite_false, exists_const, eq_self, false_and, and_false, or_false, false_or, exists_false, Evl.rLenS, rSum, wipe, tYes, exists_eq, exists_eq', rIxL, rIxT, rIxS, exists_and_right, gt_iff_lt, not_true_eq_false, not_false_eq_true, Bool.not_true, Bool.not_false, decide_eq_true_eq, Nat.reduceSub, Nat.reduceAdd, List.append_assoc, tChain, tDIn, tDNotIn, sDDel, tAug, ipI]
        refine ⟨_, .inl (sq_l hr2), ?_⟩
        rw [List.length_map]
        exact q'
      · rintro j σ H4 hj ⟨c7, rfl, rfl⟩
        have ej : ((walkC c start cs).map V.int)[j]? = some (.int (walkC c start cs)[j]) := by rw [List.getElem?_map, List.getElem?_eq_getElem hj]; rfl
        try simp only [tSeq, tIfS, tTest, tOp, tUn, tCB, tCons, tNil, tVar, tC, rI0, rI, rU, rEq, rNe, tRet, tRetN, tAsg, gName, gSub, tBM, tBM0, tNext, tB, tNot, tAnd, tOr, tIf, tCall, tDrop, tBreak, tCont, L2.start, tDGet, sDPut, tTup, tLst, tDNewK, tRevL, rCat, rAppend, rPop, rSetL, tAndV, tOrV, tNotV, tSl, tPart, tNoPart, tM1, gTup, gCons, gNil, cxK, cxnK, List.map_cons, List.map_nil, List.length_cons, List.length_nil, List.replicate, List.cons_append, List.nil_append, List.append_nil, List.set_cons_zero, List.set_cons_succ, List.getElem?_cons_zero, List.getElem?_cons_succ, Option.some.injEq, V.ref.injEq, V.int.injEq, V.str.injEq, V.bl.injEq, V.ty.injEq, exists_eq_left', exists_eq_left, exists_and_left, List.cons.injEq, and_true, true_and, sc_ii, sc_ss, sc_bb, sc_ni, sc_in, sc_is, sc_si, sc_nn, decide_true, decide_false, reduceCtorEq, Bool.false_eq_true, if_true, if_false, ite_true, ite_false, exists_const, eq_self, false_and, and_false, or_false, false_or, exists_false, Evl.rLenS, rSum, wipe, tYes, exists_eq, exists_eq', rIxL, rIxT, rIxS, exists_and_right, gt_iff_lt, not_true_eq_false, not_false_eq_true, Bool.not_true, Bool.not_false, decide_eq_true_eq, Nat.reduceSub, Nat.reduceAdd, List.append_assoc, tChain, tDIn, tDNotIn, sDDel, tAug, ipI]
        refine ⟨_, sq_l hr13, _, atI_nat ej, _, sq_l hr2, _, atI_nat ej, _, _, rfl, ?_⟩
        rw [decide_eq_true rfl]
        try simp only [tSeq, tIfS, tTest, tOp, tUn, tCB, tCons, tNil, tVar, tC, rI0, rI, rU, rEq, rNe, tRet, tRetN, tAsg, gName, gSub, tBM, tBM0, tNext, tB, tNot, tAnd, tOr, tIf, tCall, tDrop, tBreak, tCont, L2.start, tDGet, sDPut, tTup, tLst, tDNewK, tRevL, rCat, rAppend, rPop, rSetL, tAndV, tOrV, tNotV, tSl, tPart, tNoPart, tM1, gTup, gCons, gNil, cxK, cxnK, List.map_cons, List.map_nil, List.length_cons, List.length_nil, List.replicate, List.cons_append, List.nil_append, List.append_nil, List.set_cons_zero, List.set_cons_succ, List.getElem?_cons_zero, List.getElem?_cons_succ, Option.some.injEq, V.ref.injEq, V.int.injEq, V.str.injEq, V.bl.injEq, V.ty.injEq, exists_eq_left', exists_eq_left, exists_and_left, List.cons.injEq, and_true, true_and, sc_ii, sc_ss, sc_bb, sc_ni, sc_in, sc_is, sc_si, sc_nn, decide_true, decide_false, reduceCtorEq, Bool.false_eq_true, if_true, if_false, ite_true, ite_false, exists_const, eq_self, false_and, and_false, or_false, false_or, exists_false, Evl.rLenS, rSum, wipe, tYes, exists_eq, exists_eq', rIxL, rIxT, rIxS, exists_and_right, gt_iff_lt, not_true_eq_false, not_false_eq_true, Bool.not_true, Bool.not_false, decide_eq_true_eq, Nat.reduceSub, Nat.reduceAdd, List.append_assoc, tChain, tDIn, tDNotIn, sDDel, tAug, ipI]
      · rintro σ H4 ⟨c7, rfl, rfl⟩
        try simp only [tSeq, tIfS, tTest, tOp, tUn, tCB, tCons, tNil, tVar, tC, rI0, rI, rU, rEq, rNe, tRet, tRetN, tAsg, gName, gSub, tBM, tBM0, tNext, tB, tNot, tAnd, tOr, tIf, tCall, tDrop, tBreak, tCont, L2.start, tDGet, sDPut, tTup, tLst, tDNewK, tRevL, rCat, rAppend, rPop, rSetL, tAndV, tOrV, tNotV, tSl, tPart, tNoPart, tM1, gTup, gCons, gNil, cxK, cxnK, List.map_cons, List.map_nil, List.length_cons, List.length_nil, List.replicate, List.cons_append, List.nil_append, List.append_nil, List.set_cons_zero, List.set_cons_succ, List.getElem?_cons_zero, List.getElem?_cons_succ, Option.some.injEq, V.ref.injEq, V.int.injEq, V.str.injEq, V.bl.injEq, V.ty.injEq, exists_eq_left', exists_eq_left, exists_and_left, List.cons.injEq, and_true, true_and, sc_ii, sc_ss, sc_bb, sc_ni, sc_in, sc_is, sc_si, sc_nn, decide_true, decide_false, reduceCtorEq, Bool.false_eq_true, if_true, if_false, ite_true, ite_false, exists_const, eq_self, false_and, and_false, or_false, false_or, exists_false, Evl.rLenS, rSum, wipe, tYes, exists_eq, exists_eq', rIxL, rIxT, rIxS, exists_and_right, gt_iff_lt, not_true_eq_false, not_false_eq_true, Bool.not_true, Bool.not_false, decide_eq_true_eq, Nat.reduceSub, Nat.reduceAdd, List.append_assoc, tChain, tDIn, tDNotIn, sDDel, tAug, ipI]
        exact ⟨.inl ⟨rfl, _, sq_l hr13⟩, _, hr13, wl, q _ (k03.wr nr10)⟩
    · have hc' := hz z (List.mem_of_getElem? ez)
      have : (nameS z && decide (z ∈ rs.map (·.1))) = false := hh
      rw [nms z hc', en', decide_eq_true hc'] at this
      cases this
end
end My

set_option Elab.async false
set_option linter.all false
set_option maxRecDepth 100000
set_option maxHeartbeats 4000000
namespace My
open PySem L2 NdefX StX
theorem pick_of {zs : List Str} {i : Int} (h0 : 0 ≤ i) (h1 : i < (zs.length : Nat)) : ∃ z, z ∈ zs ∧ atI (zs.map V.str) i = some (.str z) := by
  have hi : i.toNat < zs.length := by omega
  refine ⟨zs[i.toNat], List.getElem_mem _, atI_of h0 ?_⟩
  rw [List.getElem?_map, List.getElem?_eq_getElem hi]; rfl
def rowsR (zs : List Str) (m : Nat) (c : Str → Nat → Int × Int) : List (Str × PyData) := zs.map fun z => (z, rowD2 m (c z))
theorem names_rowsR {zs : List Str} {m : Nat} {c : Str → Nat → Int × Int} : namesOf (rowsR zs m c) = zs := by
  unfold namesOf rowsR
  rw [List.map_map]
  exact (List.map_congr_left fun z _ => rfl).trans (List.map_id zs)
theorem name8 {x : Str} (hx : nameS x = true) : x.length ≤ 1000 := by
  have h8 := hx
  unfold nameS at h8
  rw [Bool.and_eq_true, Bool.and_eq_true, decide_eq_true_eq, decide_eq_true_eq] at h8
  omega
theorem RwAt.rows {H : Hp} {d : Addr} {zs : List Str} {m : Nat} {c : Str → Nat → Int × Int} (h : RwAt H d zs m c) (hb : m ≤ 1000) (nm : ∀ z ∈ zs, nameS z = true) : ∃ kvs, H d = some (.dK kvs) ∧ RowsD H kvs (rowsR zs m c) ∧ kvs.map (·.1) = zs.map (fun z => (Sum.inr z : Key)) := by
  obtain ⟨kvs, hd, hl, hv⟩ := h
  refine ⟨kvs, hd, ⟨by unfold rowsR; rw [hl, List.length_map], fun i k v e => ?_⟩, ?_⟩
  · have hi : i < zs.length := by rw [← hl]; exact (List.getElem?_eq_some_iff.mp e).1
    obtain ⟨l, xs, e2, hl2, hc⟩ := hv i zs[i] (List.getElem?_eq_getElem hi)
    rw [e] at e2
    cases e2
    exact ⟨zs[i], rowD2 m (c zs[i]), rfl, by unfold rowsR; rw [List.getElem?_map, List.getElem?_eq_getElem hi]; rfl, Dq.lst hl2 hc.dq, sz_row, fun ds e => by cases e; simpa using hb, name8 (nm _ (List.getElem_mem _))⟩
  · exact RwAt.keys (P := fun _ _ _ => True) hl fun i z e => by
      obtain ⟨l, xs, e2, _⟩ := hv i z e
      exact ⟨_, e2, True.intro⟩
theorem cellRow {A : List (Str × PyData)} {k : Nat} {f : Nat → Int × Int} {z : Str} (h : A.find? (fun p => decide (p.1 = z)) = some (z, rowD2 k f)) {i : Nat} (hi : i < k) : cellOf A z (i : Nat) = f i := by
  unfold cellOf rowOf
  rw [h]
  show ((((List.range k).map fun i => cellD (f i)).map pairI).getD (Int.toNat (i : Nat)) (0, 0)) = f i
  rw [Int.toNat_natCast, List.map_map, List.getD_eq_getElem?_getD, List.getElem?_map, List.getElem?_range hi]
  rfl
theorem find_rowsR {zs : List Str} {m : Nat} {c : Str → Nat → Int × Int} : ∀ {z : Str}, z ∈ zs → (rowsR zs m c).find? (fun p => decide (p.1 = z)) = some (z, rowD2 m (c z)) := by
  induction zs with
  | nil => intro z h; cases h
  | cons y r ih =>
    intro z h
    show ((y, rowD2 m (c y)) :: rowsR r m c).find? _ = _
    by_cases e : y = z
    · rw [List.find?_cons_of_pos (by exact decide_eq_true e), e]
    · rw [List.find?_cons_of_neg (by simpa using e)]
      rcases List.mem_cons.mp h with h | h
      · exact absurd h.symm e
      · exact ih h
theorem good_rowsR {zs : List Str} {m : Nat} {c : Str → Nat → Int × Int} (hb : CellB zs m 10 c) (zne : zs ≠ []) (z6 : zs.length ≤ 6) (nm : ∀ z ∈ zs, nameS z = true) (m1 : 1 ≤ m) (m100 : m ≤ 100) : rowsBad (rowsR zs m c) = none ∧ lenD ((rowsR zs m c).headD ("", .none)).2 = m := by
  have ln : lenD ((rowsR zs m c).headD ("", .none)).2 = m := by
    cases zs with
    | nil => exact absurd rfl zne
    | cons z r => simp [rowsR, rowD2, lenD]
  refine ⟨rowsBad_of (M := m) (by unfold rowsR; simpa using zne) (by unfold rowsR; simpa using z6) ln.symm fun q hq => ?_, ln⟩
  unfold rowsR at hq
  obtain ⟨z, hz, rfl⟩ := List.mem_map.mp hq
  refine good_side (nm z hz) m1 m100 fun i hi => ?_
  obtain ⟨⟨a, b⟩, c1, d1⟩ := hb z hz i hi
  exact ⟨a, b, c1, d1⟩
theorem mk_tab {TC BT t dt d : Addr} {H2 : Hp} {zs : List Str} {m : Nat} {c : Str → Nat → Int × Int} {st : Int} {Q : VK} {E : XK} (hR : RwAt H2 d zs m c) (hb : CellB zs m 10 c) (nd : zs.Nodup) (zne : zs ≠ []) (z6 : zs.length ≤ 6) (nm : ∀ z ∈ zs, nameS z = true) (m1 : 1 ≤ m) (m100 : m ≤ 100) (s0 : 0 ≤ st) (s1 : st < m)
    (nt : H2 t = none) (ndt : H2 dt = none) (ne : t ≠ dt) (q : ∀ H3, TabIs TC H3 t zs m st c → (∀ H'' : Hp, (∀ a u, H3 a = some u → (H2 a = none ∨ ∃ xs, u = .tup xs) → H'' a = some u) → TabIs TC H'' t zs m st c) → Kp [] H2 H3 → Q .non H3) : spTI TC BT [.ref t, .ref d, .int st] (upd (upd H2 dt (.own t)) t (.ins TC dt [])) Q E := by
  have k3 : Kp [] H2 (upd (upd H2 dt (.own t)) t (.ins TC dt [])) := (Kp.new ndt).trans (Kp.new (by rw [upd_ne ne]; exact nt))
  obtain ⟨kvs, hd, hrs, hk⟩ := hR.rows (by omega) nm
  obtain ⟨rb, ln⟩ := good_rowsR hb zne z6 nm m1 m100
  have ndk : (kvs.map (·.1)).Nodup := by
    rw [hk]
    exact List.pairwise_map.mpr (nd.imp fun h e => h (by cases e; rfl))
  have kl : kvs.length ≤ 1000 := by
    have := congrArg List.length hk
    rw [List.length_map, List.length_map] at this
    omega
  refine ⟨t, dt, d, .int st, .int st, kvs, _, rfl, upd_same, k3 _ _ not0 hd, hrs.kp k3, ndk, kl, .int _, fun _ i ei i0 i1 H3 hT3 own k4 => ?_, fun n hbad => ?_⟩
  · cases ei
    rw [ln] at hT3 own
    refine q H3 ⟨_, hT3, names_rowsR, fun z hz s hs => cellRow (find_rowsR hz) hs⟩ (fun H'' up => ⟨_, own H'' fun a u e h => up a u e ?_, names_rowsR, fun z hz s hs => cellRow (find_rowsR hz) hs⟩) fun a o _ ea => k4 a o (not1 fun w => by rw [w, nt] at ea; cases ea) (k3 _ _ not0 ea)
    · rcases h with rfl | h | h
      · exact .inl nt
      · left
        by_cases e1 : a = t
        · rw [e1]; exact nt
        · rw [upd_ne e1] at h
          by_cases e2 : a = dt
          · rw [e2]; exact ndt
          · rw [upd_ne e2] at h; exact h
      · exact .inr h
  · exfalso
    rcases hbad with h | ⟨_, h, _⟩
    · rw [rb] at h; cases h
    · rw [ln] at h
      have : (decide (0 ≤ st) && decide (st < (m : Nat))) = false := h
      rw [decide_eq_true s0, decide_eq_true s1] at this
      cases this
end My

set_option Elab.async false
set_option linter.all false
set_option maxRecDepth 100000
set_option maxHeartbeats 4000000
namespace My
open PySem L2 NdefX StX
abbrev s_Table_only : Stmt := mtop 15 4
theorem sc_Table_only : FnScope ["self", "names", "name"] ["self", "names"] (defScope s_Table_only) := ⟨rfl, rfl, rfl, by decide +kernel, rfl, by decide +kernel, by decide +kernel⟩
def onlyR (rs : List (Str × PyData)) (ys : List Str) : List (Str × PyData) := rs.filter fun p => decide (p.1 ∈ ys)
def spTO (TC NO BT : Addr) : Sp := fun vs H Q E => ∃ (o l : Addr) (ys : List Str) (m : Nat) (first : Int) (rs : List (Str × PyData)), vs = [.ref o, .ref l] ∧ TabAt TC H o m first rs ∧ H l = some (.lst (ys.map V.str)) ∧ ys.length ≤ 1000 ∧ (∀ z ∈ ys, z.length ≤ 1000) ∧
  (ys ≠ [] → (∀ z ∈ ys, z ∈ rs.map (·.1)) → ∀ (r : Addr) (H' : Hp), H r = none → TabAt TC H' r m first (onlyR rs ys) → Kp [] H H' → Q (.ref r) H') ∧
  (ys = [] → ∀ (e : Addr) (H' : Hp), H e = none → H' e = some (.xd [("name", .str "")]) → Kp [] H H' → E (.ref BT) (some e) H') ∧
  (∀ (i : Nat) (z : Str), ys[i]? = some z → hasD rs (.str z) = false → (∀ j y, j < i → ys[j]? = some y → hasD rs (.str y) = true) → ∀ (e : Addr) (H' : Hp), H e = none → H' e = some (.xd [("name", .str z)]) → Kp [] H H' → E (.ref NO) (some e) H')
def ChkO (o l : Addr) (zs : List Str) (rs : List (Str × PyData)) (H : Hp) (i : Nat) (σ : L2.St) (H' : Hp) : Prop := ∃ c, σ = [some (.ref o), some (.ref l), c] ∧ Kp [] H H' ∧ ∀ j y, j < i → zs[j]? = some y → hasD rs (.str y) = true
def OnlyIn (d : Addr) (od : Obj) (kvs : List (Key × V)) (rs : List (Str × PyData)) (ys : List Str) (D : Addr) (H2 : Hp) (i : Nat) (H' : Hp) : Prop := H' d = some (.frz od (.dK kvs)) ∧ Kp [] H2 H' ∧ ∃ kvs', H' D = some (.dK kvs') ∧ RowsD H' kvs' (onlyR (rs.take i) ys)
theorem only_good {rs : List (Str × PyData)} {ys : List Str} {m : Nat} (rb : rowsBad rs = none) (em : m = lenD (rs.headD ("", .none)).2) (ne : onlyR rs ys ≠ []) : rowsBad (onlyR rs ys) = none ∧ lenD ((onlyR rs ys).headD ("", .none)).2 = m := by
  obtain ⟨_, l6, gd⟩ := rowsBad_none rb
  rw [← em] at gd
  have sub : ∀ q ∈ onlyR rs ys, goodR m q = true := fun q hq => gd q (List.mem_filter.mp hq).1
  have ln : lenD ((onlyR rs ys).headD ("", .none)).2 = m := by
    cases e : onlyR rs ys with
    | nil => exact absurd e ne
    | cons p r =>
      have h := sub p (by rw [e]; exact List.mem_cons_self)
      obtain ⟨n, d⟩ := p
      obtain ⟨_, ds, rfl, _, l⟩ := goodR_row h
      exact l
  exact ⟨rowsBad_of ne (Nat.le_trans (List.length_filter_le _ _) l6) ln.symm sub, ln⟩
section
variable {P : Program} {w : World} {K : PySem.W.Frag} {mg : Str → Option Value} {base : Heap} {tL t1 t2 : Tok}
theorem ok_Table_only {f : Addr} {fd : FuncData} (F : Fun K "only" "Table.only" s_Table_only f fd) (T : Bt mg tL t1 t2) {TC BT NO fN fI : Addr} {fdN fdI : FuncData} (C : TbC K mg TC)
    (ME_Table_check_name : Meth K TC "check_name" fN) (bM_Table_check_name : Binds K fdN ["self", "name"] []) (G_Table_check_name : FnOk P w K mg base (L2.CX P w) 3 fN fdN ["self", "name"] (spTK TC NO))
    (M_Table : Mk K TC fI) (bI_Table : Binds K fdI ["self", "rows", "first"] []) (G_Table_init : FnOk P w K mg base (L2.CX P w) 6 fI fdI ["self", "rows", "first"] (spTI TC BT)) : FnOk P w K mg base (L2.CX P w) 8 f fd ["self", "names"] (spTO TC NO BT) := by
  refine F.okX sc_Table_only (fun vs H Q E h => ?_) (fun cdv A outer s H vs Q E hr h => ?_)
  · obtain ⟨o, l, zs, m, first, rs, rfl, _⟩ := h
    rfl
  · obtain ⟨o, l, zs, m, first, rs, rfl, hT, hl, zl, zb, qG, qE, qN⟩ := h
    have hu := hu_of hr
    refine ⟨_, (pss_cons (ps_for (passes_of rfl) rfl (pi_list (pv 1)) (pg_name (i := 2) sc_Table_only.nd rfl (Or.inl rfl)) (pss_one (ps_expr (pe_meth (pv 0) C.cl ME_Table_check_name G_Table_check_name (hr.mono (by decide)) bM_Table_check_name .nil (passes_call (E := E) (takes_of rfl rfl rfl rfl) (fun _ _ _ _ h => h)) (pa_cons (pv 2) pa_nil)))))
      (pss_one (ps_ret (pe_make M_Table G_Table_init (hr.mono (by decide)) rfl C.k bI_Table .nil (passes_call (E := E) (takes_of rfl rfl rfl rfl) (fun _ _ _ _ h => h)) (pa_cons (pe_lock (pe_dc (own := [("name", 2)]) (g := (gName 2)) rfl sc_Table_only.nd (pi_keys (pe_fld (pv 0) rfl)) (blkOk_by (N := ["self", "names", "name"]) (sc := defScope s_Table_only) (by decide +kernel)) (fun _ _ _ _ _ => (pg_name (i := 2) sc_Table_only.nd rfl (Or.inl rfl))) (fun _ _ _ _ _ => (pts_one (pt_cmpR (r := rIn K false) op_in_seq (pv 2) (pv 1) (by rfl)))) (fun _ _ _ _ _ => (pv 2)) (fun _ _ _ _ _ => (pe_dget hu ((pe_fld (pv 0) rfl) : PE _ _ (tFld K _ "_rows")) (pv 2) (fun _ _ => rfl))))) (pa_cons (pe_fld (pv 0) rfl) pa_nil)))))), ?_⟩
    try simp only [tSeq, tIfS, tTest, tOp, tUn, tCB, tCons, tNil, tVar, tC, rI0, rI, rU, rEq, rNe, tRet, tRetN, tAsg, gName, gSub, tBM, tBM0, tNext, tB, tNot, tAnd, tOr, tIf, tCall, tDrop, tBreak, tCont, L2.start, tDGet, sDPut, tTup, tLst, tDNewK, tRevL, rCat, rAppend, rPop, rSetL, tAndV, tOrV, tNotV, tSl, tPart, tNoPart, tM1, gTup, gCons, gNil, cxK, cxnK, List.map_cons, List.map_nil, List.length_cons, List.length_nil, List.replicate, List.cons_append, List.nil_append, List.append_nil, List.set_cons_zero, List.set_cons_succ, List.getElem?_cons_zero, List.getElem?_cons_succ, Option.some.injEq, V.ref.injEq, V.int.injEq, V.str.injEq, V.bl.injEq, V.ty.injEq, exists_eq_left', exists_eq_left, exists_and_left, List.cons.injEq, and_true, true_and, sc_ii, sc_ss, sc_bb, sc_ni, sc_in, sc_is, sc_si, sc_nn, decide_true, decide_false, reduceCtorEq, Bool.false_eq_true, if_true, if_false, ite_true, ite_false, exists_const, eq_self, false_and, and_false, or_false, false_or, exists_false, Evl.rLenS, rSum, wipe, tYes, exists_eq, exists_eq', rIxL, rIxT, rIxS, exists_and_right, gt_iff_lt, not_true_eq_false, not_false_eq_true, Bool.not_true, Bool.not_false, decide_eq_true_eq, Nat.reduceSub, Nat.reduceAdd, List.append_assoc, tChain, tDIn, tDNotIn, sDDel, tAug, ipI, tFld, tMeth]
    have xl : ∀ {i : Nat} {x : V}, (zs.map V.str)[i]? = some x → ∃ z, zs[i]? = some z ∧ x = .str z := fun {i x} e => by
      rw [List.getElem?_map] at e
      cases ez : zs[i]? with
      | none => rw [ez] at e; cases e
      | some z => rw [ez] at e; cases e; exact ⟨z, rfl, rfl⟩
    refine ⟨.ref l, rfl, l, rfl, ⟨_, sq_l hl⟩, for_list (K := K) (a := l) (xs := zs.map V.str) (ChkO o l zs rs H) ⟨_, rfl, Kp.refl _ _, fun j y hj => absurd hj (by omega)⟩ (fun i σ H' _ h => by obtain ⟨_, _, k, _⟩ := h; exact k.ls not0 (sq_l hl)) ?_ ?_⟩
    · rintro i x σ H1 hx ⟨c, rfl, k1, hg⟩
      obtain ⟨z, ez, rfl⟩ := xl hx
      try simp only [tSeq, tIfS, tTest, tOp, tUn, tCB, tCons, tNil, tVar, tC, rI0, rI, rU, rEq, rNe, tRet, tRetN, tAsg, gName, gSub, tBM, tBM0, tNext, tB, tNot, tAnd, tOr, tIf, tCall, tDrop, tBreak, tCont, L2.start, tDGet, sDPut, tTup, tLst, tDNewK, tRevL, rCat, rAppend, rPop, rSetL, tAndV, tOrV, tNotV, tSl, tPart, tNoPart, tM1, gTup, gCons, gNil, cxK, cxnK, List.map_cons, List.map_nil, List.length_cons, List.length_nil, List.replicate, List.cons_append, List.nil_append, List.append_nil, List.set_cons_zero, List.set_cons_succ, List.getElem?_cons_zero, List.getElem?_cons_succ, Option.some.injEq, V.ref.injEq, V.int.injEq, V.str.injEq, V.bl.injEq, V.ty.injEq, exists_eq_left', exists_eq_left, exists_and_left, List.cons.injEq, and_true, true_and, sc_ii, sc_ss, sc_bb, sc_ni, sc_in, sc_is, sc_si, sc_nn, decide_true, decide_false, reduceCtorEq, Bool.false_eq_true, if_true, if_false, ite_true, ite_false, exists_const, eq_self, false_and, and_false, or_false, false_or, exists_false, Evl.rLenS, rSum, wipe, tYes, exists_eq, exists_eq', rIxL, rIxT, rIxS, exists_and_right, gt_iff_lt, not_true_eq_false, not_false_eq_true, Bool.not_true, Bool.not_false, decide_eq_true_eq, Nat.reduceSub, Nat.reduceAdd, List.append_assoc, tChain, tDIn, tDNotIn, sDDel, tAug, ipI, tMeth]
      obtain ⟨dx0, d0, ho0⟩ := (hT.kp k1).head
      have szz : szD (.str z) = true := decide_eq_true (zb z (List.mem_of_getElem? ez))
      refine ⟨dx0, _, ho0, rfl, o, .str z, .str z, m, first, rs, rfl, hT.kp k1, .str z, szz, fun hh H2 k2 => ⟨_, rfl, k1.trans k2, fun j y hj ey => ?_⟩, fun hh e H' ne he k => qN i z ez hh hg e H' (k1.free0 ne) he (k1.trans k)⟩
      by_cases zj : j = i
      · subst zj; rw [ez] at ey; cases ey; exact hh
      · exact hg j y (by omega) ey
    · rintro σ H1 ⟨c, rfl, k1, hg⟩
      have hT1 := hT.kp k1
      have allN : ∀ z ∈ zs, z ∈ rs.map (·.1) := fun z hz => by
        obtain ⟨j, ej⟩ := List.getElem?_of_mem hz
        have hh := hg j z (by rw [List.length_map]; exact (List.getElem?_eq_some_iff.mp ej).1) ej
        have h' : (nameS z && decide (z ∈ rs.map (·.1))) = true := hh
        rw [Bool.and_eq_true, decide_eq_true_eq] at h'
        exact h'.2
      obtain ⟨dx0, d, kvs, ho, hd, hrs, nd, rb, em, f0, f1⟩ := hT1
      try simp only [tSeq, tIfS, tTest, tOp, tUn, tCB, tCons, tNil, tVar, tC, rI0, rI, rU, rEq, rNe, tRet, tRetN, tAsg, gName, gSub, tBM, tBM0, tNext, tB, tNot, tAnd, tOr, tIf, tCall, tDrop, tBreak, tCont, L2.start, tDGet, sDPut, tTup, tLst, tDNewK, tRevL, rCat, rAppend, rPop, rSetL, tAndV, tOrV, tNotV, tSl, tPart, tNoPart, tM1, gTup, gCons, gNil, cxK, cxnK, List.map_cons, List.map_nil, List.length_cons, List.length_nil, List.replicate, List.cons_append, List.nil_append, List.append_nil, List.set_cons_zero, List.set_cons_succ, List.getElem?_cons_zero, List.getElem?_cons_succ, Option.some.injEq, V.ref.injEq, V.int.injEq, V.str.injEq, V.bl.injEq, V.ty.injEq, exists_eq_left', exists_eq_left, exists_and_left, List.cons.injEq, and_true, true_and, sc_ii, sc_ss, sc_bb, sc_ni, sc_in, sc_is, sc_si, sc_nn, decide_true, decide_false, reduceCtorEq, Bool.false_eq_true, if_true, if_false, ite_true, ite_false, exists_const, eq_self, false_and, and_false, or_false, false_or, exists_false, Evl.rLenS, rSum, wipe, tYes, exists_eq, exists_eq', rIxL, rIxT, rIxS, exists_and_right, gt_iff_lt, not_true_eq_false, not_false_eq_true, Bool.not_true, Bool.not_false, decide_eq_true_eq, Nat.reduceSub, Nat.reduceAdd, List.append_assoc, tChain, tDIn, tDNotIn, sDDel, tAug, ipI, tFld, tMake]
      refine ⟨d, .dK kvs, hd, True.intro, fun od => ?_⟩
      have kf : Kp [d] H1 (upd H1 d (.frz od (.dK kvs))) := (Kp.refl [d] _).put List.mem_cons_self
      have odn : o ≠ d := fun z => by rw [z, hd] at ho; cases ho
      have dno : ∀ a ∈ [d], ∀ xs, H1 a ≠ some (.tup xs) ∧ H1 a ≠ some (.lst xs) := dk_no hd
      have hrs4 := hrs.kpN kf dno
      have hl1 := k1 _ _ not0 hl
      have ldn : l ≠ d := fun z => by rw [z, hd] at hl1; cases hl1
      have hl4 : (upd H1 d (.frz od (.dK kvs))) l = some (.lst (zs.map V.str)) := by rw [upd_ne ldn]; exact hl1
      refine ⟨.ref o, rfl, o, TC, dx0, _, .ref d, rfl, kf _ _ (not1 odn) ho, C.cl, C.n3, rfl, d, od, rfl, .inl ⟨kvs, upd_same, fun D nD => dc_it walk_keys (OnlyIn d od kvs rs zs D (upd H1 d (.frz od (.dK kvs)))) ?_ (fun i H' _ h => h.1) ?_ ?_⟩⟩
      · have dD : d ≠ D := ne_of_none upd_same nD
        exact ⟨by rw [upd_ne dD, upd_same], Kp.new nD, [], upd_same, ⟨rfl, fun i k v e => by cases e⟩⟩
      · rintro j x H5 H6 hj ⟨hf5, k5, kvs', hD5, hr5⟩ ⟨rfl, k, v, ek, rfl⟩
        obtain ⟨n, dd, rfl, er, hq, szd, bnd, nl3⟩ := hrs4.2 j k v ek
        have tk : onlyR (rs.take (j + 1)) zs = onlyR (rs.take j) zs ++ (if n ∈ zs then [(n, dd)] else []) := by
          unfold onlyR
          rw [take_snoc er, List.filter_append]
          by_cases hn : n ∈ zs <;> simp [hn]
        try simp only [tSeq, tIfS, tTest, tOp, tUn, tCB, tCons, tNil, tVar, tC, rI0, rI, rU, rEq, rNe, tRet, tRetN, tAsg, gName, gSub, tBM, tBM0, tNext, tB, tNot, tAnd, tOr, tIf, tCall, tDrop, tBreak, tCont, L2.start, tDGet, sDPut, tTup, tLst, tDNewK, tRevL, rCat, rAppend, rPop, rSetL, tAndV, tOrV, tNotV, tSl, tPart, tNoPart, tM1, gTup, gCons, gNil, cxK, cxnK, List.map_cons, List.map_nil, List.length_cons, List.length_nil, List.replicate, List.cons_append, List.nil_append, List.append_nil, List.set_cons_zero, List.set_cons_succ, List.getElem?_cons_zero, List.getElem?_cons_succ, Option.some.injEq, V.ref.injEq, V.int.injEq, V.str.injEq, V.bl.injEq, V.ty.injEq, exists_eq_left', exists_eq_left, exists_and_left, List.cons.injEq, and_true, true_and, sc_ii, sc_ss, sc_bb, sc_ni, sc_in, sc_is, sc_si, sc_nn, decide_true, decide_false, reduceCtorEq, Bool.false_eq_true, if_true, if_false, ite_true, ite_false, exists_const, eq_self, false_and, and_false, or_false, false_or, exists_false, Evl.rLenS, rSum, wipe, tYes, exists_eq, exists_eq', rIxL, rIxT, rIxS, exists_and_right, gt_iff_lt, not_true_eq_false, not_false_eq_true, Bool.not_true, Bool.not_false, decide_eq_true_eq, Nat.reduceSub, Nat.reduceAdd, List.append_assoc, tChain, tDIn, tDNotIn, sDDel, tAug, ipI, tFld]
        refine ⟨l, _, rfl, .inl (sq_l (k5 _ _ not0 hl4)), rfl, flat_strs, ?_⟩
        simp only [Bool.false_eq_true, if_false]
        rw [show kV (Sum.inr n) = V.str n from rfl, inV_str]
        have nms := nd_names hrs.keys nd
        have ho5 : H6 o = some (.ins TC dx0 [("size", .int (m : Nat)), ("first", .int first), ("_rows", .ref d)]) := k5 _ _ not0 (kf _ _ (not1 odn) ho)
        by_cases hn : n ∈ zs
        · rw [decide_eq_true hn]
          refine ⟨true, rfl, ?_⟩
          rw [if_pos rfl]
          have erj : (rs.map (·.1))[j]? = some n := by rw [List.getElem?_map, er]; rfl
          have fr : (Sum.inr n : Key) ∉ kvs'.map (·.1) := by
            rw [hr5.keys]
            intro hm
            obtain ⟨n', hn', e⟩ := List.mem_map.mp hm
            cases e
            obtain ⟨p, hp, e2⟩ := List.mem_map.mp hn'
            have hp' := (List.mem_filter.mp hp).1
            have : n ∈ (rs.map (·.1)).take j := by
              rw [← List.map_take, ← e2]
              exact List.mem_map_of_mem hp'
            exact nd_fresh nms erj this
          have l5 : kvs'.length ≤ 1000 := by
            have h1 := hr5.1
            have h2 : (onlyR (rs.take j) zs).length ≤ (rs.take j).length := List.length_filter_le _ _
            have h3 := (rowsBad_none rb).2.1
            rw [List.length_take] at h2
            omega
          have dD : d ≠ D := fun z => by rw [z, hD5] at hf5; cases hf5
          refine ⟨TC, dx0, _, ho5, C.cl, C.n3, _, rfl, d, rfl, v, .inl ⟨kvs, Sum.inr n, .inr ⟨od, hf5⟩, rfl, (valV_mem nd (List.mem_of_getElem? ek)).symm⟩, kvs', Sum.inr n, rfl, hD5, smallL (by omega), ?_⟩
          rw [putK_new _ (valV_fresh fr)]
          have kw7 : Kp [D] H6 (upd H6 D (.dK (kvs' ++ [(Sum.inr n, v)]))) := (Kp.refl [D] _).put List.mem_cons_self
          have Dno : ∀ a ∈ [D], ∀ xs', H6 a ≠ some (.tup xs') ∧ H6 a ≠ some (.lst xs') := dk_no hD5
          refine ⟨kw7 _ _ (not1 dD) hf5, k5.wr nD, _, upd_same, ?_⟩
          rw [tk, if_pos hn]
          exact RowsD.app (hr5.kpN kw7 Dno) ((Dq.kpN k5 (fun a m => absurd m (by simp)) hq).kpN kw7 Dno) szd bnd nl3
        · rw [decide_eq_false hn]
          refine ⟨false, rfl, ?_⟩
          rw [if_neg Bool.false_ne_true]
          refine ⟨hf5, k5, kvs', hD5, ?_⟩
          rw [tk, if_neg hn, List.append_nil]
          exact hr5
      rintro H5 ⟨hf5, k5, kvs', hD5, hr5⟩
      have dD : d ≠ D := fun z => by rw [z, hD5] at hf5; cases hf5
      have lk : kvs.length = rs.length := hrs.1
      rw [lk, List.take_length] at hr5
      have k15 := unl (kf.trans k5.of0) hd
      have kd5 : Kp [d] H5 (upd H5 d (.dK kvs)) := (Kp.refl [d] _).put List.mem_cons_self
      have hr6 := hr5.kpN kd5 (by
        intro a ha xs'
        rw [List.mem_singleton.mp ha, hf5]
        exact ⟨fun z => (by cases z), fun z => (by cases z)⟩)
      have hD6 : (upd H5 d (.dK kvs)) D = some (.dK kvs') := by rw [upd_ne (Ne.symm dD)]; exact hD5
      have ho6 := k15 _ _ not0 ho
      refine ⟨hf5, ?_⟩
      generalize (upd H5 d (.dK kvs)) = H6 at k15 hr6 hD6 ho6 ⊢
      try simp only [tSeq, tIfS, tTest, tOp, tUn, tCB, tCons, tNil, tVar, tC, rI0, rI, rU, rEq, rNe, tRet, tRetN, tAsg, gName, gSub, tBM, tBM0, tNext, tB, tNot, tAnd, tOr, tIf, tCall, tDrop, tBreak, tCont, L2.start, tDGet, sDPut, tTup, tLst, tDNewK, tRevL, rCat, rAppend, rPop, rSetL, tAndV, tOrV, tNotV, tSl, tPart, tNoPart, tM1, gTup, gCons, gNil, cxK, cxnK, List.map_cons, List.map_nil, List.length_cons, List.length_nil, List.replicate, List.cons_append, List.nil_append, List.append_nil, List.set_cons_zero, List.set_cons_succ, List.getElem?_cons_zero, List.getElem?_cons_succ, Option.some.injEq, V.ref.injEq, V.int.injEq, V.str.injEq, V.bl.injEq, V.ty.injEq, exists_eq_left', exists_eq_left, exists_and_left, List.cons.injEq, and_true, true_and, sc_ii, sc_ss, sc_bb, sc_ni, sc_in, sc_is, sc_si, sc_nn, decide_true, decide_false, reduceCtorEq, Bool.false_eq_true, if_true, if_false, ite_true, ite_false, exists_const, eq_self, false_and, and_false, or_false, false_or, exists_false, Evl.rLenS, rSum, wipe, tYes, exists_eq, exists_eq', rIxL, rIxT, rIxS, exists_and_right, gt_iff_lt, not_true_eq_false, not_false_eq_true, Bool.not_true, Bool.not_false, decide_eq_true_eq, Nat.reduceSub, Nat.reduceAdd, List.append_assoc, tChain, tDIn, tDNotIn, sDDel, tAug, ipI, tFld, tMake]
      refine ⟨TC, dx0, _, ho6, C.cl, C.n2, _, rfl, fun r dr nr ndr ner => ?_⟩
      have k3 : Kp [] H6 (upd (upd H6 dr (.own r)) r (.ins TC dr [])) := (Kp.new ndr).trans (Kp.new (by rw [upd_ne ner.symm]; exact nr))
      have k06 := k1.trans k15
      have ndk : (kvs'.map (·.1)).Nodup := by
        rw [hr6.keys]
        have nms := nd_names hrs.keys nd
        have n0 : ((onlyR rs zs).map (·.1)).Nodup := List.pairwise_map.mpr ((List.pairwise_map.mp nms).sublist List.filter_sublist)
        exact List.pairwise_map.mpr (n0.imp fun h e => h (by cases e; rfl))
      have kl : kvs'.length ≤ 1000 := by
        have h1 := hr6.1
        have h2 : (onlyR rs zs).length ≤ rs.length := List.length_filter_le _ _
        have h3 := (rowsBad_none rb).2.1
        omega
      refine ⟨r, dr, D, .int first, .int first, kvs', _, rfl, upd_same, k3 _ _ not0 hD6, hr6.kp k3, ndk, kl, .int _, fun rb2 i ei i0 i1 H' hT' _ k' => ?_, fun nm hbad => ?_⟩
      · cases ei
        have zne : zs ≠ [] := fun e => by
          have : onlyR rs zs = [] := by unfold onlyR; rw [e]; simp
          rw [this] at rb2; cases rb2
        have one : onlyR rs zs ≠ [] := fun e => by rw [e] at rb2; cases rb2
        obtain ⟨_, ln⟩ := only_good rb em one
        rw [ln] at hT'
        exact ⟨rfl, qG zne allN r H' (k06.free0 nr) hT' fun a o' _ ea => k' a o' (not1 fun w => by rw [w, k06.free0 nr] at ea; cases ea) (k3 _ _ not0 (k06 _ _ not0 ea))⟩
      · intro e H' ne he k
        by_cases zne : zs = []
        · have on : onlyR rs zs = [] := by unfold onlyR; rw [zne]; simp
          have enm : nm = ("" : Str) := by
            rcases hbad with h | ⟨h, _⟩
            · rw [on] at h; cases h; rfl
            · rw [on] at h; cases h
          subst enm
          have er : e ≠ r := fun w => by rw [w, upd_same] at ne; cases ne
          exact qE zne e H' ((k06.trans k3).free0 ne) he fun a o' _ ea => k a o' (not1 fun w => by rw [w, k06.free0 nr] at ea; cases ea) (k3 _ _ not0 (k06 _ _ not0 ea))
        · exfalso
          have one : onlyR rs zs ≠ [] := fun e => by
            obtain ⟨z, r, ez⟩ : ∃ z r, zs = z :: r := by
              cases zs with
              | nil => exact absurd rfl zne
              | cons z r => exact ⟨z, r, rfl⟩
            have hz := allN z (by rw [ez]; simp)
            obtain ⟨p, hp, e2⟩ := List.mem_map.mp hz
            have : p ∈ onlyR rs zs := List.mem_filter.mpr ⟨hp, decide_eq_true (by rw [e2, ez]; simp)⟩
            rw [e] at this; cases this
          obtain ⟨rb2, ln⟩ := only_good rb em one
          rcases hbad with h | ⟨_, h, _⟩
          · rw [rb2] at h; cases h
          · rw [ln] at h
            have : (decide (0 ≤ first) && decide (first < (m : Nat))) = false := h
            rw [decide_eq_true f0, decide_eq_true f1] at this
            cases this
end
end My

set_option Elab.async false
set_option linter.all false
set_option maxRecDepth 100000
set_option maxHeartbeats 4000000
namespace My
open PySem L2 NdefX StX
abbrev s_law_unknown : Stmt := top 28
theorem sc_law_unknown : FnScope ["_law_table", "_law_way", "_law_calls_here", "_law_state", "_law_odd", "e"] ["_law_table", "_law_way", "_law_calls_here", "_law_state", "_law_odd"] (defScope s_law_unknown) := ⟨rfl, rfl, rfl, by decide +kernel, rfl, by decide +kernel, by decide +kernel⟩
abbrev s_law_bad_state : Stmt := top 29
theorem sc_law_bad_state : FnScope ["_law_table", "_law_name", "_law_state", "e"] ["_law_table", "_law_name", "_law_state"] (defScope s_law_bad_state) := ⟨rfl, rfl, rfl, by decide +kernel, rfl, by decide +kernel, by decide +kernel⟩
abbrev s_law_none_named : Stmt := top 30
theorem sc_law_none_named : FnScope ["_law_table", "e"] ["_law_table"] (defScope s_law_none_named) := ⟨rfl, rfl, rfl, by decide +kernel, rfl, by decide +kernel, by decide +kernel⟩
structure BtE (K : PySem.W.Frag) (mg : Str → Option Value) (CE NO BN BT : Addr) : Prop where
  k_CoreError : mg "CoreError" = some (.ref CE)
  k_NoOperation : mg "NoOperation" = some (.ref NO)
  k_BadNumber : mg "BadNumber" = some (.ref BN)
  k_BadTable : mg "BadTable" = some (.ref BT)
  XN : XfC K NO
  fN : PySem.W.findIn K (.ref NO) "name" = some none
  XB : XfC K BN
  fB : PySem.W.findIn K (.ref BN) "number" = some none
  XT : XfC K BT
  fT : PySem.W.findIn K (.ref BT) "name" = some none
  EN : PySem.W.exmOne K (.ref NO) (.ref NO) = some true
  EB : PySem.W.exmOne K (.ref BN) (.ref BN) = some true
  ET : PySem.W.exmOne K (.ref BT) (.ref BT) = some true
  KN : KitC K NO
  KB : KitC K BN
  KT : KitC K BT
  n1 : PySem.W.kitOne K (.ref NO) (.ref CE) = some true
  n2 : PySem.W.kitOne K (.ref NO) (.type "ValueError") = some true
  n3 : PySem.W.kitOne K (.ref NO) (.ref BT) = some false
  b1 : PySem.W.kitOne K (.ref BN) (.ref CE) = some true
  b3 : PySem.W.kitAny K (.ref BN) [.ref BT, .ref NO] = some false
  t1 : PySem.W.kitOne K (.ref BT) (.ref CE) = some true
  t2 : PySem.W.kitOne K (.ref BT) (.type "ValueError") = some true
  t3 : PySem.W.kitAny K (.ref BT) [.ref NO, .ref BN] = some false
  b_isinstance : mg "isinstance" = none
  b_ValueError : mg "ValueError" = none
section
variable {P : Program} {w : World} {K : PySem.W.Frag} {mg : Str → Option Value} {base : Heap}
def spUnk (TC : Addr) : Sp := fun vs H Q _ => ∃ (t cl : Addr) (way st : Int) (odd : Str) (m : Nat) (start : Int) (zs cs : List Str) (c : Str → Nat → Int × Int), vs = [.ref t, .int way, .ref cl, .int st, .str odd] ∧ TabIs TC H t zs m start c ∧ H cl = some (.lst (cs.map V.str)) ∧ cs.length ≤ 1000 ∧ (∀ z ∈ cs, z.length ≤ 1000) ∧ odd.length ≤ 1000 ∧ odd ∉ zs ∧
  (way = 0 ∨ ∃ i : Nat, cs[i]? = some odd ∧ ∀ (j : Nat) y, j < i → cs[j]? = some y → y ∈ zs) ∧ ∀ H', Kp [] H H' → Q (.bl true) H'
theorem ok_law_unknown {f : Addr} {fd : FuncData} (D : Df K mg "_law_unknown" s_law_unknown ["_law_table", "_law_way", "_law_calls_here", "_law_state", "_law_odd"] f fd) {CE NO BN BT TC fC fA fO : Addr} {fdC fdA fdO : FuncData} (T : BtE K mg CE NO BN BT) (C : TbC K mg TC)
    (CO_Table : CallO K TC fC) (bC_Table : Binds K fdC ["self", "name", "state"] []) (G_Table_call0 : FnOk P w K mg base (L2.CX P w) 4 fC fdC ["self", "name", "state"] (spTCall TC NO BN))
    (ME_Table_answers : Meth K TC "answers" fA) (bM_Table_answers : Binds K fdA ["self", "calls"] []) (G_Table_answers : FnOk P w K mg base (L2.CX P w) 4 fA fdA ["self", "calls"] (spTA TC NO))
    (ME_Table_only : Meth K TC "only" fO) (bM_Table_only : Binds K fdO ["self", "names"] []) (G_Table_only : FnOk P w K mg base (L2.CX P w) 8 fO fdO ["self", "names"] (spTO TC NO BT)) :
    FnOk P w K mg base CX0 9 f fd ["_law_table", "_law_way", "_law_calls_here", "_law_state", "_law_odd"] (spUnk TC) := by
  refine D.F.ok sc_law_unknown (fun vs H Q E h => ?_) (fun cdv A outer s H vs Q E hr h => ?_)
  · obtain ⟨_, _, _, _, _, _, _, _, _, _, rfl, _⟩ := h
    rfl
  · obtain ⟨t, cl, way, st, odd, m, start, zs, cs, c, rfl, ⟨rs, hT, en, hc⟩, hcl, cl1, cs8, o8, onot, hway, q⟩ := h
    have XF_NoOperation := T.XN
    have NO_name := T.fN
    have G_Table_call := G_Table_call0.toR bC_Table
    refine ⟨_, (pss_cons (ps_try_as (i := 5) rfl rfl sc_law_unknown.nd rfl rfl ⟨rfl, by decide, .inl T.k_NoOperation⟩ takes0 (fun W pn xe tk _ => (pss_one (ps_if (pt_cmpR op_eq (pv 1) pe_int (nomark _)) (pss_one (ps_expr (pe_callOT (k := 4) CO_Table G_Table_call (hr.mono (by decide)) (fun σ => passAt tk σ) (pv 0) (pa_cons (pv 4) (pa_cons (pv 3) pa_nil))))) (pss_one (ps_if (pt_cmpR op_eq (pv 1) pe_int (nomark _)) (pss_one (ps_expr (pe_methT (k := 4) C.cl ME_Table_answers G_Table_answers (hr.mono (by decide)) bM_Table_answers (fun σ => passAt tk σ) (pv 0) (pa_cons (pv 2) pa_nil)))) (pss_one (ps_expr (pe_methT (k := 8) C.cl ME_Table_only G_Table_only (hr.mono (by decide)) bM_Table_only (fun σ => passAt tk σ) (pv 0) (pa_cons (pv 2) pa_nil))))))))) (fun a oe cls d pn hz hf => (pss_one (ps_ret (pe_and (pe_cmpR op_eq (pe_xf XF_NoOperation NO_name hz hf (pv 5)) (pv 4) (nomark _)) (pe_and (pe_callB (id := "isinstance") (r := rIsX K a cls d) (call_isX hz hf) (by rfl) T.b_isinstance (by decide +kernel) (pa_cons (pv 5) (pa_cons (pe_glob (v := .ref CE) rfl T.k_CoreError rfl) pa_nil))) (pe_and (pe_callB (id := "isinstance") (r := rIsX K a cls d) (call_isX hz hf) (by rfl) T.b_isinstance (by decide +kernel) (pa_cons (pv 5) (pa_cons (pe_bltn (v := .ty "ValueError") (by rfl) T.b_ValueError (by decide +kernel) rfl) pa_nil))) (pe_one (pe_not (pe_callB (id := "isinstance") (r := rIsX K a cls d) (call_isX hz hf) (by rfl) T.b_isinstance (by decide +kernel) (pa_cons (pv 5) (pa_cons (pe_glob (v := .ref BT) rfl T.k_BadTable rfl) pa_nil))))))))))))
      (pss_one (ps_ret pe_bl))), ?_⟩
    try simp only [tSeq, tIfS, tTest, tOp, tUn, tCB, tCons, tNil, tVar, tC, rI0, rI, rU, rEq, rNe, tRet, tRetN, tAsg, gName, gSub, tBM, tBM0, tNext, tB, tNot, tAnd, tOr, tIf, tCall, tDrop, tBreak, tCont, L2.start, tDGet, sDPut, tTup, tLst, tDNewK, tRevL, rCat, rAppend, rPop, rSetL, tAndV, tOrV, tNotV, tSl, tPart, tNoPart, tM1, gTup, gCons, gNil, cxK, cxnK, List.map_cons, List.map_nil, List.length_cons, List.length_nil, List.replicate, List.cons_append, List.nil_append, List.append_nil, List.set_cons_zero, List.set_cons_succ, List.getElem?_cons_zero, List.getElem?_cons_succ, Option.some.injEq, V.ref.injEq, V.int.injEq, V.str.injEq, V.bl.injEq, V.ty.injEq, exists_eq_left', exists_eq_left, exists_and_left, List.cons.injEq, and_true, true_and, sc_ii, sc_ss, sc_bb, sc_ni, sc_in, sc_is, sc_si, sc_nn, decide_true, decide_false, reduceCtorEq, Bool.false_eq_true, if_true, if_false, ite_true, ite_false, exists_const, eq_self, false_and, and_false, or_false, false_or, exists_false, Evl.rLenS, rSum, wipe, tYes, exists_eq, exists_eq', rIxL, rIxT, rIxS, exists_and_right, gt_iff_lt, not_true_eq_false, not_false_eq_true, Bool.not_true, Bool.not_false, decide_eq_true_eq, Nat.reduceSub, Nat.reduceAdd, List.append_assoc, tChain, tDIn, tDNotIn, sDDel, tAug, ipI, tMethT, tCallOT]
    have nmz : ∀ z ∈ zs, nameS z = true := by rw [← en]; exact hT.bnd.2.2.1
    obtain ⟨dx, dd, ho⟩ := hT.head
    have has : ∀ {z : Str}, z ∈ zs → hasD rs (.str z) = true := fun {z} hz => by
      show (nameS z && decide (z ∈ rs.map (·.1))) = true
      rw [nmz z hz, show rs.map (·.1) = zs from en, decide_eq_true hz]; rfl
    have hasN : hasD rs (.str odd) = false := by
      show (nameS odd && decide (odd ∈ rs.map (·.1))) = false
      rw [show rs.map (·.1) = zs from en, decide_eq_false onot, Bool.and_false]
    refine ite2 (fun h0 => ?_) (fun h0 => ?_)
    · refine ⟨⟨dx, _, ho⟩, t, .str odd, .int st, .str odd, .int st, m, start, rs, rfl, hT, .str _, decide_eq_true o8, .int _, fun z _ ez _ hh => ?_, fun _ x H1 nx hx k1 => ?_, fun hh => ?_⟩
      · cases ez; rw [hasN] at hh; cases hh
      · refine ⟨true, T.EN, fun _ y ny => ?_, fun z => by cases z⟩
        try simp only [tSeq, tIfS, tTest, tOp, tUn, tCB, tCons, tNil, tVar, tC, rI0, rI, rU, rEq, rNe, tRet, tRetN, tAsg, gName, gSub, tBM, tBM0, tNext, tB, tNot, tAnd, tOr, tIf, tCall, tDrop, tBreak, tCont, L2.start, tDGet, sDPut, tTup, tLst, tDNewK, tRevL, rCat, rAppend, rPop, rSetL, tAndV, tOrV, tNotV, tSl, tPart, tNoPart, tM1, gTup, gCons, gNil, cxK, cxnK, List.map_cons, List.map_nil, List.length_cons, List.length_nil, List.replicate, List.cons_append, List.nil_append, List.append_nil, List.set_cons_zero, List.set_cons_succ, List.getElem?_cons_zero, List.getElem?_cons_succ, Option.some.injEq, V.ref.injEq, V.int.injEq, V.str.injEq, V.bl.injEq, V.ty.injEq, exists_eq_left', exists_eq_left, exists_and_left, List.cons.injEq, and_true, true_and, sc_ii, sc_ss, sc_bb, sc_ni, sc_in, sc_is, sc_si, sc_nn, decide_true, decide_false, reduceCtorEq, Bool.false_eq_true, if_true, if_false, ite_true, ite_false, exists_const, eq_self, false_and, and_false, or_false, false_or, exists_false, Evl.rLenS, rSum, wipe, tYes, exists_eq, exists_eq', rIxL, rIxT, rIxS, exists_and_right, gt_iff_lt, not_true_eq_false, not_false_eq_true, Bool.not_true, Bool.not_false, decide_eq_true_eq, Nat.reduceSub, Nat.reduceAdd, List.append_assoc, tChain, tDIn, tDNotIn, sDDel, tAug, ipI, tXf, Ends.off]
        refine ⟨_, hx, .str odd, rfl, rfl, ?_⟩
        rw [if_pos rfl]
        refine ⟨.ref CE, .ref CE, true, NO, x, _, rfl, fun u h => h, rfl, rfl, hx, T.KN, T.n1, true, rfl, ?_⟩
        try simp only [tSeq, tIfS, tTest, tOp, tUn, tCB, tCons, tNil, tVar, tC, rI0, rI, rU, rEq, rNe, tRet, tRetN, tAsg, gName, gSub, tBM, tBM0, tNext, tB, tNot, tAnd, tOr, tIf, tCall, tDrop, tBreak, tCont, L2.start, tDGet, sDPut, tTup, tLst, tDNewK, tRevL, rCat, rAppend, rPop, rSetL, tAndV, tOrV, tNotV, tSl, tPart, tNoPart, tM1, gTup, gCons, gNil, cxK, cxnK, List.map_cons, List.map_nil, List.length_cons, List.length_nil, List.replicate, List.cons_append, List.nil_append, List.append_nil, List.set_cons_zero, List.set_cons_succ, List.getElem?_cons_zero, List.getElem?_cons_succ, Option.some.injEq, V.ref.injEq, V.int.injEq, V.str.injEq, V.bl.injEq, V.ty.injEq, exists_eq_left', exists_eq_left, exists_and_left, List.cons.injEq, and_true, true_and, sc_ii, sc_ss, sc_bb, sc_ni, sc_in, sc_is, sc_si, sc_nn, decide_true, decide_false, reduceCtorEq, Bool.false_eq_true, if_true, if_false, ite_true, ite_false, exists_const, eq_self, false_and, and_false, or_false, false_or, exists_false, Evl.rLenS, rSum, wipe, tYes, exists_eq, exists_eq', rIxL, rIxT, rIxS, exists_and_right, gt_iff_lt, not_true_eq_false, not_false_eq_true, Bool.not_true, Bool.not_false, decide_eq_true_eq, Nat.reduceSub, Nat.reduceAdd, List.append_assoc, tChain, tDIn, tDNotIn, sDDel, tAug, ipI]
        refine ⟨.ty "ValueError", .type "ValueError", true, NO, x, _, rfl, fun u h => h, rfl, rfl, hx, T.KN, T.n2, true, rfl, ?_⟩
        try simp only [tSeq, tIfS, tTest, tOp, tUn, tCB, tCons, tNil, tVar, tC, rI0, rI, rU, rEq, rNe, tRet, tRetN, tAsg, gName, gSub, tBM, tBM0, tNext, tB, tNot, tAnd, tOr, tIf, tCall, tDrop, tBreak, tCont, L2.start, tDGet, sDPut, tTup, tLst, tDNewK, tRevL, rCat, rAppend, rPop, rSetL, tAndV, tOrV, tNotV, tSl, tPart, tNoPart, tM1, gTup, gCons, gNil, cxK, cxnK, List.map_cons, List.map_nil, List.length_cons, List.length_nil, List.replicate, List.cons_append, List.nil_append, List.append_nil, List.set_cons_zero, List.set_cons_succ, List.getElem?_cons_zero, List.getElem?_cons_succ, Option.some.injEq, V.ref.injEq, V.int.injEq, V.str.injEq, V.bl.injEq, V.ty.injEq, exists_eq_left', exists_eq_left, exists_and_left, List.cons.injEq, and_true, true_and, sc_ii, sc_ss, sc_bb, sc_ni, sc_in, sc_is, sc_si, sc_nn, decide_true, decide_false, reduceCtorEq, Bool.false_eq_true, if_true, if_false, ite_true, ite_false, exists_const, eq_self, false_and, and_false, or_false, false_or, exists_false, Evl.rLenS, rSum, wipe, tYes, exists_eq, exists_eq', rIxL, rIxT, rIxS, exists_and_right, gt_iff_lt, not_true_eq_false, not_false_eq_true, Bool.not_true, Bool.not_false, decide_eq_true_eq, Nat.reduceSub, Nat.reduceAdd, List.append_assoc, tChain, tDIn, tDNotIn, sDDel, tAug, ipI]
        exact ⟨.ref BT, .ref BT, false, NO, x, _, rfl, fun u h => h, rfl, rfl, hx, T.KN, T.n3, false, rfl, q H1 k1⟩
      · rw [hasN] at hh; cases hh
    obtain ⟨i, ei, hi⟩ : ∃ i : Nat, cs[i]? = some odd ∧ ∀ (j : Nat) y, j < i → cs[j]? = some y → y ∈ zs := hway.resolve_left h0
    refine ite2 (fun h1 => ?_) (fun h1 => ?_)
    · refine ⟨dx, _, ho, rfl, t, cl, cs, m, start, rs, rfl, hT, hcl, cl1, cs8, fun al => ?_, fun i' z ez hz hg x H1 nx hx k1 => ?_⟩
      · exact absurd (al odd (List.mem_of_getElem? ei)) (by rw [show rs.map (·.1) = zs from en]; exact onot)
      · obtain rfl : z = odd := by
          rcases Nat.lt_trichotomy i' i with w | w | w
          · have := has (hi i' z w ez); rw [hz] at this; cases this
          · rw [w, ei] at ez; exact (Option.some.inj ez).symm
          · have := hg i odd w ei; rw [hasN] at this; cases this
        refine ⟨true, T.EN, fun _ y ny => ?_, fun z => by cases z⟩
        try simp only [tSeq, tIfS, tTest, tOp, tUn, tCB, tCons, tNil, tVar, tC, rI0, rI, rU, rEq, rNe, tRet, tRetN, tAsg, gName, gSub, tBM, tBM0, tNext, tB, tNot, tAnd, tOr, tIf, tCall, tDrop, tBreak, tCont, L2.start, tDGet, sDPut, tTup, tLst, tDNewK, tRevL, rCat, rAppend, rPop, rSetL, tAndV, tOrV, tNotV, tSl, tPart, tNoPart, tM1, gTup, gCons, gNil, cxK, cxnK, List.map_cons, List.map_nil, List.length_cons, List.length_nil, List.replicate, List.cons_append, List.nil_append, List.append_nil, List.set_cons_zero, List.set_cons_succ, List.getElem?_cons_zero, List.getElem?_cons_succ, Option.some.injEq, V.ref.injEq, V.int.injEq, V.str.injEq, V.bl.injEq, V.ty.injEq, exists_eq_left', exists_eq_left, exists_and_left, List.cons.injEq, and_true, true_and, sc_ii, sc_ss, sc_bb, sc_ni, sc_in, sc_is, sc_si, sc_nn, decide_true, decide_false, reduceCtorEq, Bool.false_eq_true, if_true, if_false, ite_true, ite_false, exists_const, eq_self, false_and, and_false, or_false, false_or, exists_false, Evl.rLenS, rSum, wipe, tYes, exists_eq, exists_eq', rIxL, rIxT, rIxS, exists_and_right, gt_iff_lt, not_true_eq_false, not_false_eq_true, Bool.not_true, Bool.not_false, decide_eq_true_eq, Nat.reduceSub, Nat.reduceAdd, List.append_assoc, tChain, tDIn, tDNotIn, sDDel, tAug, ipI, tXf, Ends.off]
        refine ⟨_, hx, .str z, rfl, rfl, ?_⟩
        rw [if_pos rfl]
        refine ⟨.ref CE, .ref CE, true, NO, x, _, rfl, fun u h => h, rfl, rfl, hx, T.KN, T.n1, true, rfl, ?_⟩
        try simp only [tSeq, tIfS, tTest, tOp, tUn, tCB, tCons, tNil, tVar, tC, rI0, rI, rU, rEq, rNe, tRet, tRetN, tAsg, gName, gSub, tBM, tBM0, tNext, tB, tNot, tAnd, tOr, tIf, tCall, tDrop, tBreak, tCont, L2.start, tDGet, sDPut, tTup, tLst, tDNewK, tRevL, rCat, rAppend, rPop, rSetL, tAndV, tOrV, tNotV, tSl, tPart, tNoPart, tM1, gTup, gCons, gNil, cxK, cxnK, List.map_cons, List.map_nil, List.length_cons, List.length_nil, List.replicate, List.cons_append, List.nil_append, List.append_nil, List.set_cons_zero, List.set_cons_succ, List.getElem?_cons_zero, List.getElem?_cons_succ, Option.some.injEq, V.ref.injEq, V.int.injEq, V.str.injEq, V.bl.injEq, V.ty.injEq, exists_eq_left', exists_eq_left, exists_and_left, List.cons.injEq, and_true, true_and, sc_ii, sc_ss, sc_bb, sc_ni, sc_in, sc_is, sc_si, sc_nn, decide_true, decide_false, reduceCtorEq, Bool.false_eq_true, if_true, if_false, ite_true, ite_false, exists_const, eq_self, false_and, and_false, or_false, false_or, exists_false, Evl.rLenS, rSum, wipe, tYes, exists_eq, exists_eq', rIxL, rIxT, rIxS, exists_and_right, gt_iff_lt, not_true_eq_false, not_false_eq_true, Bool.not_true, Bool.not_false, decide_eq_true_eq, Nat.reduceSub, Nat.reduceAdd, List.append_assoc, tChain, tDIn, tDNotIn, sDDel, tAug, ipI]
        refine ⟨.ty "ValueError", .type "ValueError", true, NO, x, _, rfl, fun u h => h, rfl, rfl, hx, T.KN, T.n2, true, rfl, ?_⟩
        try simp only [tSeq, tIfS, tTest, tOp, tUn, tCB, tCons, tNil, tVar, tC, rI0, rI, rU, rEq, rNe, tRet, tRetN, tAsg, gName, gSub, tBM, tBM0, tNext, tB, tNot, tAnd, tOr, tIf, tCall, tDrop, tBreak, tCont, L2.start, tDGet, sDPut, tTup, tLst, tDNewK, tRevL, rCat, rAppend, rPop, rSetL, tAndV, tOrV, tNotV, tSl, tPart, tNoPart, tM1, gTup, gCons, gNil, cxK, cxnK, List.map_cons, List.map_nil, List.length_cons, List.length_nil, List.replicate, List.cons_append, List.nil_append, List.append_nil, List.set_cons_zero, List.set_cons_succ, List.getElem?_cons_zero, List.getElem?_cons_succ, Option.some.injEq, V.ref.injEq, V.int.injEq, V.str.injEq, V.bl.injEq, V.ty.injEq, exists_eq_left', exists_eq_left, exists_and_left, List.cons.injEq, and_true, true_and, sc_ii, sc_ss, sc_bb, sc_ni, sc_in, sc_is, sc_si, sc_nn, decide_true, decide_false, reduceCtorEq, Bool.false_eq_true, if_true, if_false, ite_true, ite_false, exists_const, eq_self, false_and, and_false, or_false, false_or, exists_false, Evl.rLenS, rSum, wipe, tYes, exists_eq, exists_eq', rIxL, rIxT, rIxS, exists_and_right, gt_iff_lt, not_true_eq_false, not_false_eq_true, Bool.not_true, Bool.not_false, decide_eq_true_eq, Nat.reduceSub, Nat.reduceAdd, List.append_assoc, tChain, tDIn, tDNotIn, sDDel, tAug, ipI]
        exact ⟨.ref BT, .ref BT, false, NO, x, _, rfl, fun u h => h, rfl, rfl, hx, T.KN, T.n3, false, rfl, q H1 k1⟩
    · refine ⟨dx, _, ho, rfl, t, cl, cs, m, start, rs, rfl, hT, hcl, cl1, cs8, fun _ al => ?_, fun e0 => ?_, fun i' z ez hz hg x H1 nx hx k1 => ?_⟩
      · exact absurd (al odd (List.mem_of_getElem? ei)) (by rw [show rs.map (·.1) = zs from en]; exact onot)
      · rw [e0] at ei; cases ei
      · obtain rfl : z = odd := by
          rcases Nat.lt_trichotomy i' i with w | w | w
          · have := has (hi i' z w ez); rw [hz] at this; cases this
          · rw [w, ei] at ez; exact (Option.some.inj ez).symm
          · have := hg i odd w ei; rw [hasN] at this; cases this
        refine ⟨true, T.EN, fun _ y ny => ?_, fun z => by cases z⟩
        try simp only [tSeq, tIfS, tTest, tOp, tUn, tCB, tCons, tNil, tVar, tC, rI0, rI, rU, rEq, rNe, tRet, tRetN, tAsg, gName, gSub, tBM, tBM0, tNext, tB, tNot, tAnd, tOr, tIf, tCall, tDrop, tBreak, tCont, L2.start, tDGet, sDPut, tTup, tLst, tDNewK, tRevL, rCat, rAppend, rPop, rSetL, tAndV, tOrV, tNotV, tSl, tPart, tNoPart, tM1, gTup, gCons, gNil, cxK, cxnK, List.map_cons, List.map_nil, List.length_cons, List.length_nil, List.replicate, List.cons_append, List.nil_append, List.append_nil, List.set_cons_zero, List.set_cons_succ, List.getElem?_cons_zero, List.getElem?_cons_succ, Option.some.injEq, V.ref.injEq, V.int.injEq, V.str.injEq, V.bl.injEq, V.ty.injEq, exists_eq_left', exists_eq_left, exists_and_left, List.cons.injEq, and_true, true_and, sc_ii, sc_ss, sc_bb, sc_ni, sc_in, sc_is, sc_si, sc_nn, decide_true, decide_false, reduceCtorEq, Bool.false_eq_true, if_true, if_false, ite_true, ite_false, exists_const, eq_self, false_and, and_false, or_false, false_or, exists_false, Evl.rLenS, rSum, wipe, tYes, exists_eq, exists_eq', rIxL, rIxT, rIxS, exists_and_right, gt_iff_lt, not_true_eq_false, not_false_eq_true, Bool.not_true, Bool.not_false, decide_eq_true_eq, Nat.reduceSub, Nat.reduceAdd, List.append_assoc, tChain, tDIn, tDNotIn, sDDel, tAug, ipI, tXf, Ends.off]
        refine ⟨_, hx, .str z, rfl, rfl, ?_⟩
        rw [if_pos rfl]
        refine ⟨.ref CE, .ref CE, true, NO, x, _, rfl, fun u h => h, rfl, rfl, hx, T.KN, T.n1, true, rfl, ?_⟩
        try simp only [tSeq, tIfS, tTest, tOp, tUn, tCB, tCons, tNil, tVar, tC, rI0, rI, rU, rEq, rNe, tRet, tRetN, tAsg, gName, gSub, tBM, tBM0, tNext, tB, tNot, tAnd, tOr, tIf, tCall, tDrop, tBreak, tCont, L2.start, tDGet, sDPut, tTup, tLst, tDNewK, tRevL, rCat, rAppend, rPop, rSetL, tAndV, tOrV, tNotV, tSl, tPart, tNoPart, tM1, gTup, gCons, gNil, cxK, cxnK, List.map_cons, List.map_nil, List.length_cons, List.length_nil, List.replicate, List.cons_append, List.nil_append, List.append_nil, List.set_cons_zero, List.set_cons_succ, List.getElem?_cons_zero, List.getElem?_cons_succ, Option.some.injEq, V.ref.injEq, V.int.injEq, V.str.injEq, V.bl.injEq, V.ty.injEq, exists_eq_left', exists_eq_left, exists_and_left, List.cons.injEq, and_true, true_and, sc_ii, sc_ss, sc_bb, sc_ni, sc_in, sc_is, sc_si, sc_nn, decide_true, decide_false, reduceCtorEq, Bool.false_eq_true, if_true, if_false, ite_true, ite_false, exists_const, eq_self, false_and, and_false, or_false, false_or, exists_false, Evl.rLenS, rSum, wipe, tYes, exists_eq, exists_eq', rIxL, rIxT, rIxS, exists_and_right, gt_iff_lt, not_true_eq_false, not_false_eq_true, Bool.not_true, Bool.not_false, decide_eq_true_eq, Nat.reduceSub, Nat.reduceAdd, List.append_assoc, tChain, tDIn, tDNotIn, sDDel, tAug, ipI]
        refine ⟨.ty "ValueError", .type "ValueError", true, NO, x, _, rfl, fun u h => h, rfl, rfl, hx, T.KN, T.n2, true, rfl, ?_⟩
        try simp only [tSeq, tIfS, tTest, tOp, tUn, tCB, tCons, tNil, tVar, tC, rI0, rI, rU, rEq, rNe, tRet, tRetN, tAsg, gName, gSub, tBM, tBM0, tNext, tB, tNot, tAnd, tOr, tIf, tCall, tDrop, tBreak, tCont, L2.start, tDGet, sDPut, tTup, tLst, tDNewK, tRevL, rCat, rAppend, rPop, rSetL, tAndV, tOrV, tNotV, tSl, tPart, tNoPart, tM1, gTup, gCons, gNil, cxK, cxnK, List.map_cons, List.map_nil, List.length_cons, List.length_nil, List.replicate, List.cons_append, List.nil_append, List.append_nil, List.set_cons_zero, List.set_cons_succ, List.getElem?_cons_zero, List.getElem?_cons_succ, Option.some.injEq, V.ref.injEq, V.int.injEq, V.str.injEq, V.bl.injEq, V.ty.injEq, exists_eq_left', exists_eq_left, exists_and_left, List.cons.injEq, and_true, true_and, sc_ii, sc_ss, sc_bb, sc_ni, sc_in, sc_is, sc_si, sc_nn, decide_true, decide_false, reduceCtorEq, Bool.false_eq_true, if_true, if_false, ite_true, ite_false, exists_const, eq_self, false_and, and_false, or_false, false_or, exists_false, Evl.rLenS, rSum, wipe, tYes, exists_eq, exists_eq', rIxL, rIxT, rIxS, exists_and_right, gt_iff_lt, not_true_eq_false, not_false_eq_true, Bool.not_true, Bool.not_false, decide_eq_true_eq, Nat.reduceSub, Nat.reduceAdd, List.append_assoc, tChain, tDIn, tDNotIn, sDDel, tAug, ipI]
        exact ⟨.ref BT, .ref BT, false, NO, x, _, rfl, fun u h => h, rfl, rfl, hx, T.KN, T.n3, false, rfl, q H1 k1⟩
def spBst (TC : Addr) : Sp := fun vs H Q _ => ∃ (t : Addr) (st : Int) (z : Str) (m : Nat) (start : Int) (zs : List Str) (c : Str → Nat → Int × Int), vs = [.ref t, .str z, .int st] ∧ TabIs TC H t zs m start c ∧ z ∈ zs ∧ (st < 0 ∨ (m : Nat) ≤ st) ∧ ∀ H', Kp [] H H' → Q (.bl true) H'
theorem okz_law_is_whole {f : Addr} {fd : FuncData} (D : Df K mg "_law_is_whole" s_law_is_whole ["_law_told", "_law_due_here"] f fd) (T : BtW mg) : FnZ P w K mg base CX0 1 f fd ["_law_told", "_law_due_here"] spWhole := by
  obtain ⟨oc, od, kV, doc, pm, an, cdv, ct, osl, hfd, lk, hcd⟩ := D.F.ex
  rw [hfd] at lk ⊢
  refine fn_ofZ lk hcd sc_law_is_whole (fun vs H Q E h => ?_) (fun A outer s H vs Q E h => ?_)
  · obtain ⟨i, j, rfl, _⟩ := h
    rfl
  · obtain ⟨i, j, rfl, q⟩ := h
    refine ⟨_, (pss_one (ps_ret (pe_and (pe_callB (id := "isinstance") (r := rIsi K) call_isi (by rfl) T.b_isinstance (by decide +kernel) (pa_cons (pv 0) (pa_cons (pe_bltn (v := .ty "int") (by rfl) T.b_int (by decide +kernel) rfl) pa_nil))) (pe_and (pe_not (pe_callB (id := "isinstance") (r := rIsi K) call_isi (by rfl) T.b_isinstance (by decide +kernel) (pa_cons (pv 0) (pa_cons (pe_bltn (v := .ty "bool") (by rfl) T.b_bool (by decide +kernel) rfl) pa_nil)))) (pe_one (pe_cmpR op_eq (pv 0) (pv 1) (nomark _))))))), ?_⟩
    try simp only [tSeq, tIfS, tTest, tOp, tUn, tCB, tCons, tNil, tVar, tC, rI0, rI, rU, rEq, rNe, tRet, tRetN, tAsg, gName, gSub, tBM, tBM0, tNext, tB, tNot, tAnd, tOr, tIf, tCall, tDrop, tBreak, tCont, L2.start, tDGet, sDPut, tTup, tLst, tDNewK, tRevL, rCat, rAppend, rPop, rSetL, tAndV, tOrV, tNotV, tSl, tPart, tNoPart, tM1, gTup, gCons, gNil, cxK, cxnK, List.map_cons, List.map_nil, List.length_cons, List.length_nil, List.replicate, List.cons_append, List.nil_append, List.append_nil, List.set_cons_zero, List.set_cons_succ, List.getElem?_cons_zero, List.getElem?_cons_succ, Option.some.injEq, V.ref.injEq, V.int.injEq, V.str.injEq, V.bl.injEq, V.ty.injEq, exists_eq_left', exists_eq_left, exists_and_left, List.cons.injEq, and_true, true_and, sc_ii, sc_ss, sc_bb, sc_ni, sc_in, sc_is, sc_si, sc_nn, decide_true, decide_false, reduceCtorEq, Bool.false_eq_true, if_true, if_false, ite_true, ite_false, exists_const, eq_self, false_and, and_false, or_false, false_or, exists_false, Evl.rLenS, rSum, wipe, tYes, exists_eq, exists_eq', rIxL, rIxT, rIxS, exists_and_right, gt_iff_lt, not_true_eq_false, not_false_eq_true, Bool.not_true, Bool.not_false, decide_eq_true_eq, Nat.reduceSub, Nat.reduceAdd, List.append_assoc, tChain, tDIn, tDNotIn, sDDel, tAug, ipI]
    refine isi_int_int ?_
    try simp only [tSeq, tIfS, tTest, tOp, tUn, tCB, tCons, tNil, tVar, tC, rI0, rI, rU, rEq, rNe, tRet, tRetN, tAsg, gName, gSub, tBM, tBM0, tNext, tB, tNot, tAnd, tOr, tIf, tCall, tDrop, tBreak, tCont, L2.start, tDGet, sDPut, tTup, tLst, tDNewK, tRevL, rCat, rAppend, rPop, rSetL, tAndV, tOrV, tNotV, tSl, tPart, tNoPart, tM1, gTup, gCons, gNil, cxK, cxnK, List.map_cons, List.map_nil, List.length_cons, List.length_nil, List.replicate, List.cons_append, List.nil_append, List.append_nil, List.set_cons_zero, List.set_cons_succ, List.getElem?_cons_zero, List.getElem?_cons_succ, Option.some.injEq, V.ref.injEq, V.int.injEq, V.str.injEq, V.bl.injEq, V.ty.injEq, exists_eq_left', exists_eq_left, exists_and_left, List.cons.injEq, and_true, true_and, sc_ii, sc_ss, sc_bb, sc_ni, sc_in, sc_is, sc_si, sc_nn, decide_true, decide_false, reduceCtorEq, Bool.false_eq_true, if_true, if_false, ite_true, ite_false, exists_const, eq_self, false_and, and_false, or_false, false_or, exists_false, Evl.rLenS, rSum, wipe, tYes, exists_eq, exists_eq', rIxL, rIxT, rIxS, exists_and_right, gt_iff_lt, not_true_eq_false, not_false_eq_true, Bool.not_true, Bool.not_false, decide_eq_true_eq, Nat.reduceSub, Nat.reduceAdd, List.append_assoc, tChain, tDIn, tDNotIn, sDDel, tAug, ipI]
    refine isi_int_bool ?_
    try simp only [tSeq, tIfS, tTest, tOp, tUn, tCB, tCons, tNil, tVar, tC, rI0, rI, rU, rEq, rNe, tRet, tRetN, tAsg, gName, gSub, tBM, tBM0, tNext, tB, tNot, tAnd, tOr, tIf, tCall, tDrop, tBreak, tCont, L2.start, tDGet, sDPut, tTup, tLst, tDNewK, tRevL, rCat, rAppend, rPop, rSetL, tAndV, tOrV, tNotV, tSl, tPart, tNoPart, tM1, gTup, gCons, gNil, cxK, cxnK, List.map_cons, List.map_nil, List.length_cons, List.length_nil, List.replicate, List.cons_append, List.nil_append, List.append_nil, List.set_cons_zero, List.set_cons_succ, List.getElem?_cons_zero, List.getElem?_cons_succ, Option.some.injEq, V.ref.injEq, V.int.injEq, V.str.injEq, V.bl.injEq, V.ty.injEq, exists_eq_left', exists_eq_left, exists_and_left, List.cons.injEq, and_true, true_and, sc_ii, sc_ss, sc_bb, sc_ni, sc_in, sc_is, sc_si, sc_nn, decide_true, decide_false, reduceCtorEq, Bool.false_eq_true, if_true, if_false, ite_true, ite_false, exists_const, eq_self, false_and, and_false, or_false, false_or, exists_false, Evl.rLenS, rSum, wipe, tYes, exists_eq, exists_eq', rIxL, rIxT, rIxS, exists_and_right, gt_iff_lt, not_true_eq_false, not_false_eq_true, Bool.not_true, Bool.not_false, decide_eq_true_eq, Nat.reduceSub, Nat.reduceAdd, List.append_assoc, tChain, tDIn, tDNotIn, sDDel, tAug, ipI]
    exact q
theorem ok_law_bad_state {f : Addr} {fd : FuncData} (D : Df K mg "_law_bad_state" s_law_bad_state ["_law_table", "_law_name", "_law_state"] f fd) {CE NO BN BT TC fC : Addr} {fdC : FuncData} (T : BtE K mg CE NO BN BT) (C : TbC K mg TC)
    {fw : Addr} {fdw : FuncData} (D_law_is_whole : Df K mg "_law_is_whole" s_law_is_whole ["_law_told", "_law_due_here"] fw fdw) (Z_law_is_whole : FnZ P w K mg base CX0 1 fw fdw ["_law_told", "_law_due_here"] spWhole)
    (CO_Table : CallO K TC fC) (bC_Table : Binds K fdC ["self", "name", "state"] []) (G_Table_call0 : FnOk P w K mg base (L2.CX P w) 4 fC fdC ["self", "name", "state"] (spTCall TC NO BN)) :
    FnOk P w K mg base CX0 5 f fd ["_law_table", "_law_name", "_law_state"] (spBst TC) := by
  refine D.F.ok sc_law_bad_state (fun vs H Q E h => ?_) (fun cdv A outer s H vs Q E hr h => ?_)
  · obtain ⟨_, _, _, _, _, _, _, rfl, _⟩ := h
    rfl
  · obtain ⟨t, st, z, m, start, zs, c, rfl, ⟨rs, hT, en, hc⟩, hz, hst, q⟩ := h
    have XF_BadNumber := T.XB
    have NO_number := T.fB
    have G_Table_call := G_Table_call0.toR bC_Table
    refine ⟨_, (pss_cons (ps_try_as (i := 3) rfl rfl sc_law_bad_state.nd rfl rfl ⟨rfl, by decide, .inl T.k_BadNumber⟩ takes0 (fun W pn xe tk _ => (pss_one (ps_expr (pe_callOT (k := 4) CO_Table G_Table_call (hr.mono (by decide)) (fun σ => passAt tk σ) (pv 0) (pa_cons (pv 1) (pa_cons (pv 2) pa_nil)))))) (fun a oe cls d pn hz hf => (pss_cons (ps_if (PW.pt (pw_or (pt_not (pt_val (pe_callB (id := "isinstance") (r := rIsX K a cls d) (call_isX hz hf) (by rfl) T.b_isinstance (by decide +kernel) (pa_cons (pv 3) (pa_cons (pe_glob (v := .ref CE) rfl T.k_CoreError rfl) pa_nil))))) (pw_or1 (pt_val (pe_callB (id := "isinstance") (r := rIsXT K a cls d) (call_isXT hz hf) (by rfl) T.b_isinstance (by decide +kernel) (pa_cons (pv 3) (pa_cons (pe_tup (pa_cons (pe_glob (v := .ref BT) rfl T.k_BadTable rfl) (pa_cons (pe_glob (v := .ref NO) rfl T.k_NoOperation rfl) pa_nil))) pa_nil))))))) (pss_one (ps_ret pe_bl)) pss_nil)
      (pss_one (ps_ret (pe_callZ Z_law_is_whole (roomZ_mark (Room.mono (j := 1) hr (by decide))) rfl D_law_is_whole.g D_law_is_whole.F.kp D_law_is_whole.b (fun σ pins H s e s' I h => pass0 pins σ H s e s' I h) (pa_cons (pe_xf XF_BadNumber NO_number hz hf (pv 3)) (pa_cons (pv 2) pa_nil))))))))
      (pss_one (ps_ret pe_bl))), ?_⟩
    try simp only [tSeq, tIfS, tTest, tOp, tUn, tCB, tCons, tNil, tVar, tC, rI0, rI, rU, rEq, rNe, tRet, tRetN, tAsg, gName, gSub, tBM, tBM0, tNext, tB, tNot, tAnd, tOr, tIf, tCall, tDrop, tBreak, tCont, L2.start, tDGet, sDPut, tTup, tLst, tDNewK, tRevL, rCat, rAppend, rPop, rSetL, tAndV, tOrV, tNotV, tSl, tPart, tNoPart, tM1, gTup, gCons, gNil, cxK, cxnK, List.map_cons, List.map_nil, List.length_cons, List.length_nil, List.replicate, List.cons_append, List.nil_append, List.append_nil, List.set_cons_zero, List.set_cons_succ, List.getElem?_cons_zero, List.getElem?_cons_succ, Option.some.injEq, V.ref.injEq, V.int.injEq, V.str.injEq, V.bl.injEq, V.ty.injEq, exists_eq_left', exists_eq_left, exists_and_left, List.cons.injEq, and_true, true_and, sc_ii, sc_ss, sc_bb, sc_ni, sc_in, sc_is, sc_si, sc_nn, decide_true, decide_false, reduceCtorEq, Bool.false_eq_true, if_true, if_false, ite_true, ite_false, exists_const, eq_self, false_and, and_false, or_false, false_or, exists_false, Evl.rLenS, rSum, wipe, tYes, exists_eq, exists_eq', rIxL, rIxT, rIxS, exists_and_right, gt_iff_lt, not_true_eq_false, not_false_eq_true, Bool.not_true, Bool.not_false, decide_eq_true_eq, Nat.reduceSub, Nat.reduceAdd, List.append_assoc, tChain, tDIn, tDNotIn, sDDel, tAug, ipI, tMethT, tCallOT]
    have nmz : ∀ z ∈ zs, nameS z = true := by rw [← en]; exact hT.bnd.2.2.1
    obtain ⟨dx, dd, ho⟩ := hT.head
    have hasY : hasD rs (.str z) = true := by
      show (nameS z && decide (z ∈ rs.map (·.1))) = true
      rw [nmz z hz, show rs.map (·.1) = zs from en, decide_eq_true hz]; rfl
    have z8 := name8 (nmz z hz)
    refine ⟨⟨dx, _, ho⟩, t, .str z, .int st, .str z, .int st, m, start, rs, rfl, hT, .str _, decide_eq_true z8, .int _, fun _ s0 _ es _ i0 i1 => ?_, fun hh => ?_, fun _ _ x H1 nx hx k1 => ?_⟩
    · cases es; exfalso; omega
    · rw [hasY] at hh; cases hh
    · refine ⟨true, T.EB, fun _ y ny => ?_, fun z => by cases z⟩
      try simp only [tSeq, tIfS, tTest, tOp, tUn, tCB, tCons, tNil, tVar, tC, rI0, rI, rU, rEq, rNe, tRet, tRetN, tAsg, gName, gSub, tBM, tBM0, tNext, tB, tNot, tAnd, tOr, tIf, tCall, tDrop, tBreak, tCont, L2.start, tDGet, sDPut, tTup, tLst, tDNewK, tRevL, rCat, rAppend, rPop, rSetL, tAndV, tOrV, tNotV, tSl, tPart, tNoPart, tM1, gTup, gCons, gNil, cxK, cxnK, List.map_cons, List.map_nil, List.length_cons, List.length_nil, List.replicate, List.cons_append, List.nil_append, List.append_nil, List.set_cons_zero, List.set_cons_succ, List.getElem?_cons_zero, List.getElem?_cons_succ, Option.some.injEq, V.ref.injEq, V.int.injEq, V.str.injEq, V.bl.injEq, V.ty.injEq, exists_eq_left', exists_eq_left, exists_and_left, List.cons.injEq, and_true, true_and, sc_ii, sc_ss, sc_bb, sc_ni, sc_in, sc_is, sc_si, sc_nn, decide_true, decide_false, reduceCtorEq, Bool.false_eq_true, if_true, if_false, ite_true, ite_false, exists_const, eq_self, false_and, and_false, or_false, false_or, exists_false, Evl.rLenS, rSum, wipe, tYes, exists_eq, exists_eq', rIxL, rIxT, rIxS, exists_and_right, gt_iff_lt, not_true_eq_false, not_false_eq_true, Bool.not_true, Bool.not_false, decide_eq_true_eq, Nat.reduceSub, Nat.reduceAdd, List.append_assoc, tChain, tDIn, tDNotIn, sDDel, tAug, ipI, tXf, Ends.off, tCallS]
      refine ⟨.ref CE, .ref CE, true, BN, x, _, rfl, fun u h => h, rfl, rfl, hx, T.KB, T.b1, true, rfl, ?_⟩
      try simp only [tSeq, tIfS, tTest, tOp, tUn, tCB, tCons, tNil, tVar, tC, rI0, rI, rU, rEq, rNe, tRet, tRetN, tAsg, gName, gSub, tBM, tBM0, tNext, tB, tNot, tAnd, tOr, tIf, tCall, tDrop, tBreak, tCont, L2.start, tDGet, sDPut, tTup, tLst, tDNewK, tRevL, rCat, rAppend, rPop, rSetL, tAndV, tOrV, tNotV, tSl, tPart, tNoPart, tM1, gTup, gCons, gNil, cxK, cxnK, List.map_cons, List.map_nil, List.length_cons, List.length_nil, List.replicate, List.cons_append, List.nil_append, List.append_nil, List.set_cons_zero, List.set_cons_succ, List.getElem?_cons_zero, List.getElem?_cons_succ, Option.some.injEq, V.ref.injEq, V.int.injEq, V.str.injEq, V.bl.injEq, V.ty.injEq, exists_eq_left', exists_eq_left, exists_and_left, List.cons.injEq, and_true, true_and, sc_ii, sc_ss, sc_bb, sc_ni, sc_in, sc_is, sc_si, sc_nn, decide_true, decide_false, reduceCtorEq, Bool.false_eq_true, if_true, if_false, ite_true, ite_false, exists_const, eq_self, false_and, and_false, or_false, false_or, exists_false, Evl.rLenS, rSum, wipe, tYes, exists_eq, exists_eq', rIxL, rIxT, rIxS, exists_and_right, gt_iff_lt, not_true_eq_false, not_false_eq_true, Bool.not_true, Bool.not_false, decide_eq_true_eq, Nat.reduceSub, Nat.reduceAdd, List.append_assoc, tChain, tDIn, tDNotIn, sDDel, tAug, ipI]
      refine ⟨by decide, fun p np => ?_⟩
      have kt : Kp [] H1 (upd H1 p (.tup [.ref BT, .ref NO])) := Kp.new np
      have hx2 := kt _ _ not0 hx
      refine ⟨p, [.ref BT, .ref NO], [.ref BT, .ref NO], false, BN, x, _, rfl, upd_same, .cons (.own _) (.cons (.own _) .nil), rfl, rfl, hx2, T.KB, T.b3, false, rfl, ?_⟩
      try simp only [tSeq, tIfS, tTest, tOp, tUn, tCB, tCons, tNil, tVar, tC, rI0, rI, rU, rEq, rNe, tRet, tRetN, tAsg, gName, gSub, tBM, tBM0, tNext, tB, tNot, tAnd, tOr, tIf, tCall, tDrop, tBreak, tCont, L2.start, tDGet, sDPut, tTup, tLst, tDNewK, tRevL, rCat, rAppend, rPop, rSetL, tAndV, tOrV, tNotV, tSl, tPart, tNoPart, tM1, gTup, gCons, gNil, cxK, cxnK, List.map_cons, List.map_nil, List.length_cons, List.length_nil, List.replicate, List.cons_append, List.nil_append, List.append_nil, List.set_cons_zero, List.set_cons_succ, List.getElem?_cons_zero, List.getElem?_cons_succ, Option.some.injEq, V.ref.injEq, V.int.injEq, V.str.injEq, V.bl.injEq, V.ty.injEq, exists_eq_left', exists_eq_left, exists_and_left, List.cons.injEq, and_true, true_and, sc_ii, sc_ss, sc_bb, sc_ni, sc_in, sc_is, sc_si, sc_nn, decide_true, decide_false, reduceCtorEq, Bool.false_eq_true, if_true, if_false, ite_true, ite_false, exists_const, eq_self, false_and, and_false, or_false, false_or, exists_false, Evl.rLenS, rSum, wipe, tYes, exists_eq, exists_eq', rIxL, rIxT, rIxS, exists_and_right, gt_iff_lt, not_true_eq_false, not_false_eq_true, Bool.not_true, Bool.not_false, decide_eq_true_eq, Nat.reduceSub, Nat.reduceAdd, List.append_assoc, tChain, tDIn, tDNotIn, sDDel, tAug, ipI]
      refine ⟨_, hx2, _, rfl, st, st, rfl, ?_⟩
      rw [decide_eq_true rfl]
      exact q _ (k1.trans kt)
def spNon (TC : Addr) : Sp := fun vs H Q _ => ∃ (t : Addr) (m : Nat) (start : Int) (zs : List Str) (c : Str → Nat → Int × Int), vs = [.ref t] ∧ TabIs TC H t zs m start c ∧ ∀ H', Kp [] H H' → Q (.bl true) H'
theorem ok_law_none_named {f : Addr} {fd : FuncData} (D : Df K mg "_law_none_named" s_law_none_named ["_law_table"] f fd) {CE NO BN BT TC fO : Addr} {fdO : FuncData} (T : BtE K mg CE NO BN BT) (C : TbC K mg TC)
    (ME_Table_only : Meth K TC "only" fO) (bM_Table_only : Binds K fdO ["self", "names"] []) (G_Table_only : FnOk P w K mg base (L2.CX P w) 8 fO fdO ["self", "names"] (spTO TC NO BT)) :
    FnOk P w K mg base CX0 9 f fd ["_law_table"] (spNon TC) := by
  refine D.F.ok sc_law_none_named (fun vs H Q E h => ?_) (fun cdv A outer s H vs Q E hr h => ?_)
  · obtain ⟨_, _, _, _, _, rfl, _⟩ := h
    rfl
  · obtain ⟨t, m, start, zs, c, rfl, ⟨rs, hT, en, hc⟩, q⟩ := h
    have XF_BadTable := T.XT
    have NO_name := T.fT
    refine ⟨_, (pss_cons (ps_try_as (i := 1) rfl rfl sc_law_none_named.nd rfl rfl ⟨rfl, by decide, .inl T.k_BadTable⟩ takes0 (fun W pn xe tk _ => (pss_one (ps_expr (pe_methT (k := 8) C.cl ME_Table_only G_Table_only (hr.mono (by decide)) bM_Table_only (fun σ => passAt tk σ) (pv 0) (pa_cons (pe_lst pa_nil) pa_nil))))) (fun a oe cls d pn hz hf => (pss_one (ps_ret (pe_and (pe_cmpR op_eq (pe_xf XF_BadTable NO_name hz hf (pv 1)) pe_str (nomark _)) (pe_one (pe_callB (id := "isinstance") (r := rIsX K a cls d) (call_isX hz hf) (by rfl) T.b_isinstance (by decide +kernel) (pa_cons (pv 1) (pa_cons (pe_glob (v := .ref CE) rfl T.k_CoreError rfl) pa_nil)))))))))
      (pss_one (ps_ret pe_bl))), ?_⟩
    try simp only [tSeq, tIfS, tTest, tOp, tUn, tCB, tCons, tNil, tVar, tC, rI0, rI, rU, rEq, rNe, tRet, tRetN, tAsg, gName, gSub, tBM, tBM0, tNext, tB, tNot, tAnd, tOr, tIf, tCall, tDrop, tBreak, tCont, L2.start, tDGet, sDPut, tTup, tLst, tDNewK, tRevL, rCat, rAppend, rPop, rSetL, tAndV, tOrV, tNotV, tSl, tPart, tNoPart, tM1, gTup, gCons, gNil, cxK, cxnK, List.map_cons, List.map_nil, List.length_cons, List.length_nil, List.replicate, List.cons_append, List.nil_append, List.append_nil, List.set_cons_zero, List.set_cons_succ, List.getElem?_cons_zero, List.getElem?_cons_succ, Option.some.injEq, V.ref.injEq, V.int.injEq, V.str.injEq, V.bl.injEq, V.ty.injEq, exists_eq_left', exists_eq_left, exists_and_left, List.cons.injEq, and_true, true_and, sc_ii, sc_ss, sc_bb, sc_ni, sc_in, sc_is, sc_si, sc_nn, decide_true, decide_false, reduceCtorEq, Bool.false_eq_true, if_true, if_false, ite_true, ite_false, exists_const, eq_self, false_and, and_false, or_false, false_or, exists_false, Evl.rLenS, rSum, wipe, tYes, exists_eq, exists_eq', rIxL, rIxT, rIxS, exists_and_right, gt_iff_lt, not_true_eq_false, not_false_eq_true, Bool.not_true, Bool.not_false, decide_eq_true_eq, Nat.reduceSub, Nat.reduceAdd, List.append_assoc, tChain, tDIn, tDNotIn, sDDel, tAug, ipI, tMethT, tCallOT]
    obtain ⟨dx, dd, ho⟩ := hT.head
    refine ⟨dx, _, ho, rfl, by decide, fun p np => ?_⟩
    have kp : Kp [] H (upd H p (.lst [])) := Kp.new np
    refine ⟨t, p, [], m, start, rs, rfl, hT.kp kp, upd_same, by decide, (fun _ h => nomatch h), fun e => absurd rfl e, fun _ x H1 nx hx k1 => ?_, fun i z e => by cases e⟩
    refine ⟨true, T.ET, fun _ y ny => ?_, fun z => by cases z⟩
    try simp only [tSeq, tIfS, tTest, tOp, tUn, tCB, tCons, tNil, tVar, tC, rI0, rI, rU, rEq, rNe, tRet, tRetN, tAsg, gName, gSub, tBM, tBM0, tNext, tB, tNot, tAnd, tOr, tIf, tCall, tDrop, tBreak, tCont, L2.start, tDGet, sDPut, tTup, tLst, tDNewK, tRevL, rCat, rAppend, rPop, rSetL, tAndV, tOrV, tNotV, tSl, tPart, tNoPart, tM1, gTup, gCons, gNil, cxK, cxnK, List.map_cons, List.map_nil, List.length_cons, List.length_nil, List.replicate, List.cons_append, List.nil_append, List.append_nil, List.set_cons_zero, List.set_cons_succ, List.getElem?_cons_zero, List.getElem?_cons_succ, Option.some.injEq, V.ref.injEq, V.int.injEq, V.str.injEq, V.bl.injEq, V.ty.injEq, exists_eq_left', exists_eq_left, exists_and_left, List.cons.injEq, and_true, true_and, sc_ii, sc_ss, sc_bb, sc_ni, sc_in, sc_is, sc_si, sc_nn, decide_true, decide_false, reduceCtorEq, Bool.false_eq_true, if_true, if_false, ite_true, ite_false, exists_const, eq_self, false_and, and_false, or_false, false_or, exists_false, Evl.rLenS, rSum, wipe, tYes, exists_eq, exists_eq', rIxL, rIxT, rIxS, exists_and_right, gt_iff_lt, not_true_eq_false, not_false_eq_true, Bool.not_true, Bool.not_false, decide_eq_true_eq, Nat.reduceSub, Nat.reduceAdd, List.append_assoc, tChain, tDIn, tDNotIn, sDDel, tAug, ipI, tXf, Ends.off]
    refine ⟨_, hx, .str "", rfl, rfl, ?_⟩
    rw [if_pos rfl]
    exact ⟨.ref CE, .ref CE, true, BT, x, _, rfl, fun u h => h, rfl, rfl, hx, T.KT, T.t1, q H1 (kp.trans k1)⟩
end
end My

set_option Elab.async false
set_option linter.all false
set_option maxRecDepth 100000
set_option maxHeartbeats 4000000
namespace My
open PySem L2 NdefX StX
abbrev s_law_within : Stmt := top 31
theorem sc_law_within : FnScope ["_law_x", "_law_least", "_law_most"] ["_law_x", "_law_least", "_law_most"] (defScope s_law_within) := ⟨rfl, rfl, rfl, by decide +kernel, rfl, by decide +kernel, by decide +kernel⟩
abbrev s_law_is_name : Stmt := top 32
theorem sc_law_is_name : FnScope ["_law_name", "_law_letter"] ["_law_name"] (defScope s_law_is_name) := ⟨rfl, rfl, rfl, by decide +kernel, rfl, by decide +kernel, by decide +kernel⟩
section
variable {P : Program} {w : World} {K : PySem.W.Frag} {mg : Str → Option Value} {base : Heap}
def spWithin : Sp := fun vs H Q _ => ∃ (v : V) (d : PyData) (m : Int), vs = [v, .int 0, .int (m - 1)] ∧ Dq H v d ∧ Q (.bl (belowD m d)) H
theorem ok_law_within {f : Addr} {fd : FuncData} (D : Df K mg "_law_within" s_law_within ["_law_x", "_law_least", "_law_most"] f fd) (T : BtW mg) : FnOk P w K mg base CX0 1 f fd ["_law_x", "_law_least", "_law_most"] spWithin := by
  refine D.F.ok sc_law_within (fun vs H Q E h => ?_) (fun cdv A outer s H vs Q E hr h => ?_)
  · obtain ⟨v, d, m, rfl, _⟩ := h
    rfl
  · obtain ⟨v, d, m, rfl, hd, q⟩ := h
    refine ⟨_, (pss_one (ps_ret (pe_and (pe_callB (id := "isinstance") (r := rIsi K) call_isi (by rfl) T.b_isinstance (by decide +kernel) (pa_cons (pv 0) (pa_cons (pe_bltn (v := .ty "int") (by rfl) T.b_int (by decide +kernel) rfl) pa_nil))) (pe_and (pe_not (pe_callB (id := "isinstance") (r := rIsi K) call_isi (by rfl) T.b_isinstance (by decide +kernel) (pa_cons (pv 0) (pa_cons (pe_bltn (v := .ty "bool") (by rfl) T.b_bool (by decide +kernel) rfl) pa_nil)))) (pe_and (pe_cmpR op_le (pv 1) (pv 0) (nomark _)) (pe_one (pe_cmpR op_le (pv 0) (pv 2) (nomark _)))))))), ?_⟩
    try simp only [tSeq, tIfS, tTest, tOp, tUn, tCB, tCons, tNil, tVar, tC, rI0, rI, rU, rEq, rNe, tRet, tRetN, tAsg, gName, gSub, tBM, tBM0, tNext, tB, tNot, tAnd, tOr, tIf, tCall, tDrop, tBreak, tCont, L2.start, tDGet, sDPut, tTup, tLst, tDNewK, tRevL, rCat, rAppend, rPop, rSetL, tAndV, tOrV, tNotV, tSl, tPart, tNoPart, tM1, gTup, gCons, gNil, cxK, cxnK, List.map_cons, List.map_nil, List.length_cons, List.length_nil, List.replicate, List.cons_append, List.nil_append, List.append_nil, List.set_cons_zero, List.set_cons_succ, List.getElem?_cons_zero, List.getElem?_cons_succ, Option.some.injEq, V.ref.injEq, V.int.injEq, V.str.injEq, V.bl.injEq, V.ty.injEq, exists_eq_left', exists_eq_left, exists_and_left, List.cons.injEq, and_true, true_and, sc_ii, sc_ss, sc_bb, sc_ni, sc_in, sc_is, sc_si, sc_nn, decide_true, decide_false, reduceCtorEq, Bool.false_eq_true, if_true, if_false, ite_true, ite_false, exists_const, eq_self, false_and, and_false, or_false, false_or, exists_false, Evl.rLenS, rSum, wipe, tYes, exists_eq, exists_eq', rIxL, rIxT, rIxS, exists_and_right, gt_iff_lt, not_true_eq_false, not_false_eq_true, Bool.not_true, Bool.not_false, decide_eq_true_eq, Nat.reduceSub, Nat.reduceAdd, List.append_assoc, tChain, tDIn, tDNotIn, sDDel, tAug, ipI]
    refine isi_Dint hd ?_
    cases hd with
    | int i =>
      try simp only [tSeq, tIfS, tTest, tOp, tUn, tCB, tCons, tNil, tVar, tC, rI0, rI, rU, rEq, rNe, tRet, tRetN, tAsg, gName, gSub, tBM, tBM0, tNext, tB, tNot, tAnd, tOr, tIf, tCall, tDrop, tBreak, tCont, L2.start, tDGet, sDPut, tTup, tLst, tDNewK, tRevL, rCat, rAppend, rPop, rSetL, tAndV, tOrV, tNotV, tSl, tPart, tNoPart, tM1, gTup, gCons, gNil, cxK, cxnK, List.map_cons, List.map_nil, List.length_cons, List.length_nil, List.replicate, List.cons_append, List.nil_append, List.append_nil, List.set_cons_zero, List.set_cons_succ, List.getElem?_cons_zero, List.getElem?_cons_succ, Option.some.injEq, V.ref.injEq, V.int.injEq, V.str.injEq, V.bl.injEq, V.ty.injEq, exists_eq_left', exists_eq_left, exists_and_left, List.cons.injEq, and_true, true_and, sc_ii, sc_ss, sc_bb, sc_ni, sc_in, sc_is, sc_si, sc_nn, decide_true, decide_false, reduceCtorEq, Bool.false_eq_true, if_true, if_false, ite_true, ite_false, exists_const, eq_self, false_and, and_false, or_false, false_or, exists_false, Evl.rLenS, rSum, wipe, tYes, exists_eq, exists_eq', rIxL, rIxT, rIxS, exists_and_right, gt_iff_lt, not_true_eq_false, not_false_eq_true, Bool.not_true, Bool.not_false, decide_eq_true_eq, Nat.reduceSub, Nat.reduceAdd, List.append_assoc, tChain, tDIn, tDNotIn, sDDel, tAug, ipI, isIntD]
      refine isi_int_bool ?_
      try simp only [tSeq, tIfS, tTest, tOp, tUn, tCB, tCons, tNil, tVar, tC, rI0, rI, rU, rEq, rNe, tRet, tRetN, tAsg, gName, gSub, tBM, tBM0, tNext, tB, tNot, tAnd, tOr, tIf, tCall, tDrop, tBreak, tCont, L2.start, tDGet, sDPut, tTup, tLst, tDNewK, tRevL, rCat, rAppend, rPop, rSetL, tAndV, tOrV, tNotV, tSl, tPart, tNoPart, tM1, gTup, gCons, gNil, cxK, cxnK, List.map_cons, List.map_nil, List.length_cons, List.length_nil, List.replicate, List.cons_append, List.nil_append, List.append_nil, List.set_cons_zero, List.set_cons_succ, List.getElem?_cons_zero, List.getElem?_cons_succ, Option.some.injEq, V.ref.injEq, V.int.injEq, V.str.injEq, V.bl.injEq, V.ty.injEq, exists_eq_left', exists_eq_left, exists_and_left, List.cons.injEq, and_true, true_and, sc_ii, sc_ss, sc_bb, sc_ni, sc_in, sc_is, sc_si, sc_nn, decide_true, decide_false, reduceCtorEq, Bool.false_eq_true, if_true, if_false, ite_true, ite_false, exists_const, eq_self, false_and, and_false, or_false, false_or, exists_false, Evl.rLenS, rSum, wipe, tYes, exists_eq, exists_eq', rIxL, rIxT, rIxS, exists_and_right, gt_iff_lt, not_true_eq_false, not_false_eq_true, Bool.not_true, Bool.not_false, decide_eq_true_eq, Nat.reduceSub, Nat.reduceAdd, List.append_assoc, tChain, tDIn, tDNotIn, sDDel, tAug, ipI]
      have q' : Q (.bl (decide (0 ≤ i) && decide (i < m))) H := q
      by_cases h0 : 0 ≤ i
      · simp only [h0, decide_true, if_true]
        rw [decide_eq_true h0] at q'
        rw [show decide (i ≤ m - 1) = decide (i < m) from decide_eq_decide.mpr ⟨fun h => by omega, fun h => by omega⟩]
        exact q'
      · simp only [h0, decide_false, Bool.false_eq_true, if_false]
        rw [decide_eq_false h0] at q'
        exact q'
    | bl b =>
      try simp only [tSeq, tIfS, tTest, tOp, tUn, tCB, tCons, tNil, tVar, tC, rI0, rI, rU, rEq, rNe, tRet, tRetN, tAsg, gName, gSub, tBM, tBM0, tNext, tB, tNot, tAnd, tOr, tIf, tCall, tDrop, tBreak, tCont, L2.start, tDGet, sDPut, tTup, tLst, tDNewK, tRevL, rCat, rAppend, rPop, rSetL, tAndV, tOrV, tNotV, tSl, tPart, tNoPart, tM1, gTup, gCons, gNil, cxK, cxnK, List.map_cons, List.map_nil, List.length_cons, List.length_nil, List.replicate, List.cons_append, List.nil_append, List.append_nil, List.set_cons_zero, List.set_cons_succ, List.getElem?_cons_zero, List.getElem?_cons_succ, Option.some.injEq, V.ref.injEq, V.int.injEq, V.str.injEq, V.bl.injEq, V.ty.injEq, exists_eq_left', exists_eq_left, exists_and_left, List.cons.injEq, and_true, true_and, sc_ii, sc_ss, sc_bb, sc_ni, sc_in, sc_is, sc_si, sc_nn, decide_true, decide_false, reduceCtorEq, Bool.false_eq_true, if_true, if_false, ite_true, ite_false, exists_const, eq_self, false_and, and_false, or_false, false_or, exists_false, Evl.rLenS, rSum, wipe, tYes, exists_eq, exists_eq', rIxL, rIxT, rIxS, exists_and_right, gt_iff_lt, not_true_eq_false, not_false_eq_true, Bool.not_true, Bool.not_false, decide_eq_true_eq, Nat.reduceSub, Nat.reduceAdd, List.append_assoc, tChain, tDIn, tDNotIn, sDDel, tAug, ipI, isIntD]
      refine isi_bl_bool ?_
      try simp only [tSeq, tIfS, tTest, tOp, tUn, tCB, tCons, tNil, tVar, tC, rI0, rI, rU, rEq, rNe, tRet, tRetN, tAsg, gName, gSub, tBM, tBM0, tNext, tB, tNot, tAnd, tOr, tIf, tCall, tDrop, tBreak, tCont, L2.start, tDGet, sDPut, tTup, tLst, tDNewK, tRevL, rCat, rAppend, rPop, rSetL, tAndV, tOrV, tNotV, tSl, tPart, tNoPart, tM1, gTup, gCons, gNil, cxK, cxnK, List.map_cons, List.map_nil, List.length_cons, List.length_nil, List.replicate, List.cons_append, List.nil_append, List.append_nil, List.set_cons_zero, List.set_cons_succ, List.getElem?_cons_zero, List.getElem?_cons_succ, Option.some.injEq, V.ref.injEq, V.int.injEq, V.str.injEq, V.bl.injEq, V.ty.injEq, exists_eq_left', exists_eq_left, exists_and_left, List.cons.injEq, and_true, true_and, sc_ii, sc_ss, sc_bb, sc_ni, sc_in, sc_is, sc_si, sc_nn, decide_true, decide_false, reduceCtorEq, Bool.false_eq_true, if_true, if_false, ite_true, ite_false, exists_const, eq_self, false_and, and_false, or_false, false_or, exists_false, Evl.rLenS, rSum, wipe, tYes, exists_eq, exists_eq', rIxL, rIxT, rIxS, exists_and_right, gt_iff_lt, not_true_eq_false, not_false_eq_true, Bool.not_true, Bool.not_false, decide_eq_true_eq, Nat.reduceSub, Nat.reduceAdd, List.append_assoc, tChain, tDIn, tDNotIn, sDDel, tAug, ipI]
      exact q
    | _ =>
      try simp only [tSeq, tIfS, tTest, tOp, tUn, tCB, tCons, tNil, tVar, tC, rI0, rI, rU, rEq, rNe, tRet, tRetN, tAsg, gName, gSub, tBM, tBM0, tNext, tB, tNot, tAnd, tOr, tIf, tCall, tDrop, tBreak, tCont, L2.start, tDGet, sDPut, tTup, tLst, tDNewK, tRevL, rCat, rAppend, rPop, rSetL, tAndV, tOrV, tNotV, tSl, tPart, tNoPart, tM1, gTup, gCons, gNil, cxK, cxnK, List.map_cons, List.map_nil, List.length_cons, List.length_nil, List.replicate, List.cons_append, List.nil_append, List.append_nil, List.set_cons_zero, List.set_cons_succ, List.getElem?_cons_zero, List.getElem?_cons_succ, Option.some.injEq, V.ref.injEq, V.int.injEq, V.str.injEq, V.bl.injEq, V.ty.injEq, exists_eq_left', exists_eq_left, exists_and_left, List.cons.injEq, and_true, true_and, sc_ii, sc_ss, sc_bb, sc_ni, sc_in, sc_is, sc_si, sc_nn, decide_true, decide_false, reduceCtorEq, Bool.false_eq_true, if_true, if_false, ite_true, ite_false, exists_const, eq_self, false_and, and_false, or_false, false_or, exists_false, Evl.rLenS, rSum, wipe, tYes, exists_eq, exists_eq', rIxL, rIxT, rIxS, exists_and_right, gt_iff_lt, not_true_eq_false, not_false_eq_true, Bool.not_true, Bool.not_false, decide_eq_true_eq, Nat.reduceSub, Nat.reduceAdd, List.append_assoc, tChain, tDIn, tDNotIn, sDDel, tAug, ipI, isIntD]
      exact q
def spIsN : Sp := fun vs H Q _ => ∃ z : Str, vs = [.str z] ∧ z.length ≤ 1000 ∧ Q (.bl (nameS z)) H
structure BtI (mg : Str → Option Value) : Prop where
  b_len : mg "len" = none
theorem ok_law_is_name {f : Addr} {fd : FuncData} (D : Df K mg "_law_is_name" s_law_is_name ["_law_name"] f fd) (T : BtI mg) : FnOk P w K mg base CX0 1 f fd ["_law_name"] spIsN := by
  refine D.F.ok sc_law_is_name (fun vs H Q E h => ?_) (fun cdv A outer s H vs Q E hr h => ?_)
  · obtain ⟨z, rfl, _⟩ := h
    rfl
  · obtain ⟨z, rfl, z1, q⟩ := h
    refine ⟨_, (pss_cons (ps_if (PW.pt (pw_or (pt_cmpR op_lt (pe_callB (id := "len") call_len_str (by rfl) T.b_len PySem.boot_len (pa_cons (pv 0) pa_nil)) pe_int (nomark _)) (pw_or1 (pt_cmpR op_gt (pe_callB (id := "len") call_len_str (by rfl) T.b_len PySem.boot_len (pa_cons (pv 0) pa_nil)) pe_int (nomark _))))) (pss_one (ps_ret pe_bl)) pss_nil)
      (pss_cons (ps_for PassesOwn.never rfl (pi_str (pv 0)) (pg_name (i := 1) sc_law_is_name.nd rfl (Or.inl rfl)) (pss_one (ps_if (pt_cmpR op_notIn_sign (pv 1) pe_str (by rfl)) (pss_one (ps_ret pe_bl)) pss_nil)))
      (pss_one (ps_ret pe_bl)))), ?_⟩
    try simp only [tSeq, tIfS, tTest, tOp, tUn, tCB, tCons, tNil, tVar, tC, rI0, rI, rU, rEq, rNe, tRet, tRetN, tAsg, gName, gSub, tBM, tBM0, tNext, tB, tNot, tAnd, tOr, tIf, tCall, tDrop, tBreak, tCont, L2.start, tDGet, sDPut, tTup, tLst, tDNewK, tRevL, rCat, rAppend, rPop, rSetL, tAndV, tOrV, tNotV, tSl, tPart, tNoPart, tM1, gTup, gCons, gNil, cxK, cxnK, List.map_cons, List.map_nil, List.length_cons, List.length_nil, List.replicate, List.cons_append, List.nil_append, List.append_nil, List.set_cons_zero, List.set_cons_succ, List.getElem?_cons_zero, List.getElem?_cons_succ, Option.some.injEq, V.ref.injEq, V.int.injEq, V.str.injEq, V.bl.injEq, V.ty.injEq, exists_eq_left', exists_eq_left, exists_and_left, List.cons.injEq, and_true, true_and, sc_ii, sc_ss, sc_bb, sc_ni, sc_in, sc_is, sc_si, sc_nn, decide_true, decide_false, reduceCtorEq, Bool.false_eq_true, if_true, if_false, ite_true, ite_false, exists_const, eq_self, false_and, and_false, or_false, false_or, exists_false, Evl.rLenS, rSum, wipe, tYes, exists_eq, exists_eq', rIxL, rIxT, rIxS, exists_and_right, gt_iff_lt, not_true_eq_false, not_false_eq_true, Bool.not_true, Bool.not_false, decide_eq_true_eq, Nat.reduceSub, Nat.reduceAdd, List.append_assoc, tChain, tDIn, tDNotIn, sDDel, tAug, ipI]
    have zs : z.cps.toList.length = z.length := Array.length_toList
    refine ⟨small (by omega), ?_⟩
    have bad : nameS z = false → Q (.bl false) H := fun e => by rw [e] at q; exact q
    refine ite2 (fun h1 => bad ?_) (fun h1 => ?_)
    · unfold nameS
      rw [decide_eq_false (by omega)]; rfl
    refine ⟨small (by omega), ?_⟩
    refine ite2 (fun h8 => bad ?_) (fun h8 => ?_)
    · unfold nameS
      rw [decide_eq_true (by omega), decide_eq_false (by omega)]; rfl
    refine ⟨.str z, rfl, z, rfl, for_it walk_str (fun i σ H' => ∃ c, σ = [some (.str z), c] ∧ H' = H ∧ ∀ j x, j < i → z.cps.toList[j]? = some x → lowC x = true) ⟨_, rfl, rfl, fun j x hj => absurd hj (by omega)⟩ (fun _ _ _ _ _ => True.intro) ?_ ?_⟩
    · rintro i x σ H1 H2 hi ⟨c0, rfl, rfl, hg⟩ ⟨rfl, c, hc, rfl⟩
      try simp only [tSeq, tIfS, tTest, tOp, tUn, tCB, tCons, tNil, tVar, tC, rI0, rI, rU, rEq, rNe, tRet, tRetN, tAsg, gName, gSub, tBM, tBM0, tNext, tB, tNot, tAnd, tOr, tIf, tCall, tDrop, tBreak, tCont, L2.start, tDGet, sDPut, tTup, tLst, tDNewK, tRevL, rCat, rAppend, rPop, rSetL, tAndV, tOrV, tNotV, tSl, tPart, tNoPart, tM1, gTup, gCons, gNil, cxK, cxnK, List.map_cons, List.map_nil, List.length_cons, List.length_nil, List.replicate, List.cons_append, List.nil_append, List.append_nil, List.set_cons_zero, List.set_cons_succ, List.getElem?_cons_zero, List.getElem?_cons_succ, Option.some.injEq, V.ref.injEq, V.int.injEq, V.str.injEq, V.bl.injEq, V.ty.injEq, exists_eq_left', exists_eq_left, exists_and_left, List.cons.injEq, and_true, true_and, sc_ii, sc_ss, sc_bb, sc_ni, sc_in, sc_is, sc_si, sc_nn, decide_true, decide_false, reduceCtorEq, Bool.false_eq_true, if_true, if_false, ite_true, ite_false, exists_const, eq_self, false_and, and_false, or_false, false_or, exists_false, Evl.rLenS, rSum, wipe, tYes, exists_eq, exists_eq', rIxL, rIxT, rIxS, exists_and_right, gt_iff_lt, not_true_eq_false, not_false_eq_true, Bool.not_true, Bool.not_false, decide_eq_true_eq, Nat.reduceSub, Nat.reduceAdd, List.append_assoc, tChain, tDIn, tDNotIn, sDDel, tAug, ipI]
      have ec : z.cps.toList[i]? = some c := by rw [← hc]; simp
      refine ⟨c, rfl, ?_⟩
      rw [show (Str.ofString "abcdefghijklmnopqrstuvwxyz") = lets from rfl, lets_mem]
      cases hl : lowC c with
      | true =>
        try simp only [tSeq, tIfS, tTest, tOp, tUn, tCB, tCons, tNil, tVar, tC, rI0, rI, rU, rEq, rNe, tRet, tRetN, tAsg, gName, gSub, tBM, tBM0, tNext, tB, tNot, tAnd, tOr, tIf, tCall, tDrop, tBreak, tCont, L2.start, tDGet, sDPut, tTup, tLst, tDNewK, tRevL, rCat, rAppend, rPop, rSetL, tAndV, tOrV, tNotV, tSl, tPart, tNoPart, tM1, gTup, gCons, gNil, cxK, cxnK, List.map_cons, List.map_nil, List.length_cons, List.length_nil, List.replicate, List.cons_append, List.nil_append, List.append_nil, List.set_cons_zero, List.set_cons_succ, List.getElem?_cons_zero, List.getElem?_cons_succ, Option.some.injEq, V.ref.injEq, V.int.injEq, V.str.injEq, V.bl.injEq, V.ty.injEq, exists_eq_left', exists_eq_left, exists_and_left, List.cons.injEq, and_true, true_and, sc_ii, sc_ss, sc_bb, sc_ni, sc_in, sc_is, sc_si, sc_nn, decide_true, decide_false, reduceCtorEq, Bool.false_eq_true, if_true, if_false, ite_true, ite_false, exists_const, eq_self, false_and, and_false, or_false, false_or, exists_false, Evl.rLenS, rSum, wipe, tYes, exists_eq, exists_eq', rIxL, rIxT, rIxS, exists_and_right, gt_iff_lt, not_true_eq_false, not_false_eq_true, Bool.not_true, Bool.not_false, decide_eq_true_eq, Nat.reduceSub, Nat.reduceAdd, List.append_assoc, tChain, tDIn, tDNotIn, sDDel, tAug, ipI]
        intro j y hj ey
        by_cases zj : j = i
        · subst zj; rw [ec] at ey; cases ey; exact hl
        · exact hg j y (by omega) ey
      | false =>
        try simp only [tSeq, tIfS, tTest, tOp, tUn, tCB, tCons, tNil, tVar, tC, rI0, rI, rU, rEq, rNe, tRet, tRetN, tAsg, gName, gSub, tBM, tBM0, tNext, tB, tNot, tAnd, tOr, tIf, tCall, tDrop, tBreak, tCont, L2.start, tDGet, sDPut, tTup, tLst, tDNewK, tRevL, rCat, rAppend, rPop, rSetL, tAndV, tOrV, tNotV, tSl, tPart, tNoPart, tM1, gTup, gCons, gNil, cxK, cxnK, List.map_cons, List.map_nil, List.length_cons, List.length_nil, List.replicate, List.cons_append, List.nil_append, List.append_nil, List.set_cons_zero, List.set_cons_succ, List.getElem?_cons_zero, List.getElem?_cons_succ, Option.some.injEq, V.ref.injEq, V.int.injEq, V.str.injEq, V.bl.injEq, V.ty.injEq, exists_eq_left', exists_eq_left, exists_and_left, List.cons.injEq, and_true, true_and, sc_ii, sc_ss, sc_bb, sc_ni, sc_in, sc_is, sc_si, sc_nn, decide_true, decide_false, reduceCtorEq, Bool.false_eq_true, if_true, if_false, ite_true, ite_false, exists_const, eq_self, false_and, and_false, or_false, false_or, exists_false, Evl.rLenS, rSum, wipe, tYes, exists_eq, exists_eq', rIxL, rIxT, rIxS, exists_and_right, gt_iff_lt, not_true_eq_false, not_false_eq_true, Bool.not_true, Bool.not_false, decide_eq_true_eq, Nat.reduceSub, Nat.reduceAdd, List.append_assoc, tChain, tDIn, tDNotIn, sDDel, tAug, ipI]
        refine bad ?_
        unfold nameS
        have : z.cps.toList.all lowC = false := by
          rw [List.all_eq_false]
          exact ⟨c, List.mem_of_getElem? ec, by rw [hl]; exact Bool.false_ne_true⟩
        rw [this, Bool.and_false, Bool.and_false]
    · rintro σ H1 ⟨c0, rfl, rfl, hg⟩
      try simp only [tSeq, tIfS, tTest, tOp, tUn, tCB, tCons, tNil, tVar, tC, rI0, rI, rU, rEq, rNe, tRet, tRetN, tAsg, gName, gSub, tBM, tBM0, tNext, tB, tNot, tAnd, tOr, tIf, tCall, tDrop, tBreak, tCont, L2.start, tDGet, sDPut, tTup, tLst, tDNewK, tRevL, rCat, rAppend, rPop, rSetL, tAndV, tOrV, tNotV, tSl, tPart, tNoPart, tM1, gTup, gCons, gNil, cxK, cxnK, List.map_cons, List.map_nil, List.length_cons, List.length_nil, List.replicate, List.cons_append, List.nil_append, List.append_nil, List.set_cons_zero, List.set_cons_succ, List.getElem?_cons_zero, List.getElem?_cons_succ, Option.some.injEq, V.ref.injEq, V.int.injEq, V.str.injEq, V.bl.injEq, V.ty.injEq, exists_eq_left', exists_eq_left, exists_and_left, List.cons.injEq, and_true, true_and, sc_ii, sc_ss, sc_bb, sc_ni, sc_in, sc_is, sc_si, sc_nn, decide_true, decide_false, reduceCtorEq, Bool.false_eq_true, if_true, if_false, ite_true, ite_false, exists_const, eq_self, false_and, and_false, or_false, false_or, exists_false, Evl.rLenS, rSum, wipe, tYes, exists_eq, exists_eq', rIxL, rIxT, rIxS, exists_and_right, gt_iff_lt, not_true_eq_false, not_false_eq_true, Bool.not_true, Bool.not_false, decide_eq_true_eq, Nat.reduceSub, Nat.reduceAdd, List.append_assoc, tChain, tDIn, tDNotIn, sDDel, tAug, ipI]
      have : nameS z = true := by
        unfold nameS
        rw [decide_eq_true (by omega), decide_eq_true (by omega)]
        show z.cps.toList.all lowC = true
        rw [List.all_eq_true]
        intro x hx
        obtain ⟨j, ej⟩ := List.getElem?_of_mem hx
        exact hg j x (List.getElem?_eq_some_iff.mp ej).1 ej
      rw [this] at q
      exact q
end
end My

set_option Elab.async false
set_option linter.all false
set_option maxRecDepth 100000
set_option maxHeartbeats 4000000
namespace My
open PySem L2 NdefX StX
abbrev s_law_due : Stmt := top 33
theorem sc_law_due : FnScope ["_law_items", "_law_start", "_law_size", "_law_name", "_law_row", "_law_pair"] ["_law_items", "_law_start"] (defScope s_law_due) := ⟨rfl, rfl, rfl, by decide +kernel, rfl, by decide +kernel, by decide +kernel⟩
abbrev s_law_made : Stmt := top 34
theorem sc_law_made : FnScope ["_law_items", "_law_start", "_law_handed", "_law_name", "_law_row", "e"] ["_law_items", "_law_start"] (defScope s_law_made) := ⟨rfl, rfl, rfl, by decide +kernel, rfl, by decide +kernel, by decide +kernel⟩
/-- a list [name, row] -/
def ItAt (H : Hp) (v : V) (it : Str × List PyData) : Prop := ∃ p l xs, v = .ref p ∧ H p = some (.lst [.str it.1, .ref l]) ∧ H l = some (.lst xs) ∧ DqAll H xs it.2
def Items (H : Hp) (a : Addr) (its : List (Str × List PyData)) : Prop := ∃ vs, H a = some (.lst vs) ∧ vs.length = its.length ∧ ∀ (i : Nat) it, its[i]? = some it → ∃ v, vs[i]? = some v ∧ ItAt H v it
theorem ItAt.kp {H H' : Hp} {v : V} {it : Str × List PyData} (h : ItAt H v it) (k : Kp [] H H') : ItAt H' v it := by
  obtain ⟨p, l, xs, e, hp, hl, hd⟩ := h
  exact ⟨p, l, xs, e, k _ _ not0 hp, k _ _ not0 hl, hd.kp k⟩
theorem Items.kp {H H' : Hp} {a : Addr} {its : List (Str × List PyData)} (h : Items H a its) (k : Kp [] H H') : Items H' a its := by
  obtain ⟨vs, ha, hl, hv⟩ := h
  exact ⟨vs, k _ _ not0 ha, hl, fun i it e => by obtain ⟨v, ev, hi⟩ := hv i it e; exact ⟨v, ev, hi.kp k⟩⟩
/-- sizes that a list of items has -/
def ItOk (its : List (Str × List PyData)) : Prop := its.length ≤ 1000 ∧ ∀ it ∈ its, it.1.length ≤ 1000 ∧ szAll it.2 = true ∧ it.2.length ≤ 1000
def rowsI (its : List (Str × List PyData)) : List (Str × PyData) := its.map fun it => (it.1, .list it.2)
def dueT (its : List (Str × List PyData)) (start : Int) : Option Str := match rowsBad (rowsI its) with
  | some n => some n
  | none => if belowD (lenD ((rowsI its).headD ("", .none)).2) (.int start) then none else some ""
def resOk (o : Option Str) (H : Hp) (Q : VK) : Prop := (o = none → ∀ H', Kp [] H H' → Q .non H') ∧ (∀ n, o = some n → ∀ (r : Addr) (H' : Hp), H r = none → H' r = some (.lst [.str n]) → Kp [] H H' → Q (.ref r) H')
theorem rowsI_get {its : List (Str × List PyData)} {i : Nat} {it : Str × List PyData} (h : its[i]? = some it) : (rowsI its)[i]? = some (it.1, .list it.2) := by
  unfold rowsI; rw [List.getElem?_map, h]; rfl
theorem due_few {its : List (Str × List PyData)} {start : Int} (h : its.length < 1 ∨ 6 < its.length) : dueT its start = some ("" : Str) := by
  have : rowsBad (rowsI its) = some ("" : Str) := by
    cases its with
    | nil => rfl
    | cons x r =>
      rcases h with h | h
      · simp at h
      · show (if 7 ≤ (rowsI (x :: r)).length then some ("" : Str) else _) = _
        exact if_pos (by unfold rowsI; rw [List.length_map]; exact h)
  unfold dueT
  rw [this]
def headL (its : List (Str × List PyData)) : Nat := lenD ((rowsI its).headD ("", .none)).2
theorem rowsBad_mid {its : List (Str × List PyData)} (h1 : ¬ its.length < 1) (h6 : ¬ 6 < its.length) : rowsBad (rowsI its) = ((rowsI its).find? fun q => !goodR (headL its) q).map (·.1) := by
  cases its with
  | nil => exact absurd (by simp) h1
  | cons x r =>
    show (if 7 ≤ (rowsI (x :: r)).length then some ("" : Str) else _) = _
    exact if_neg (by unfold rowsI; rw [List.length_map]; omega)
theorem due_at {its : List (Str × List PyData)} {start : Int} {i : Nat} {it : Str × List PyData} (h1 : ¬ its.length < 1) (h6 : ¬ 6 < its.length) (e : its[i]? = some it) (hg : ∀ j jt, j < i → its[j]? = some jt → goodR (headL its) (jt.1, .list jt.2) = true) (hb : goodR (headL its) (it.1, .list it.2) = false) : dueT its start = some it.1 := by
  unfold dueT
  rw [rowsBad_mid h1 h6, find_first (rowsI_get e) (by rw [hb]; rfl) fun j y hj ey => by
    have : (rowsI its)[j]? = (its[j]?).map fun it => (it.1, PyData.list it.2) := by unfold rowsI; rw [List.getElem?_map]
    rw [this] at ey
    cases ej : its[j]? with
    | none => rw [ej] at ey; cases ey
    | some jt =>
      rw [ej] at ey
      cases ey
      rw [hg j jt hj ej]; rfl]
  rfl
theorem due_end {its : List (Str × List PyData)} {start : Int} (h1 : ¬ its.length < 1) (h6 : ¬ 6 < its.length) (hg : ∀ it ∈ its, goodR (headL its) (it.1, .list it.2) = true) : dueT its start = if belowD (headL its) (.int start) then none else some ("" : Str) := by
  unfold dueT
  have : ((rowsI its).find? fun q => !goodR (headL its) q) = none := by
    rw [List.find?_eq_none]
    intro q hq
    unfold rowsI at hq
    obtain ⟨it, hi, rfl⟩ := List.mem_map.mp hq
    rw [hg it hi]
    exact Bool.false_ne_true
  rw [rowsBad_mid h1 h6, this]
  rfl
def DueO (a : Addr) (start : Int) (m : Nat) (its : List (Str × List PyData)) (H : Hp) (i : Nat) (σ : L2.St) (H' : Hp) : Prop := ∃ c3 c4 c5, σ = [some (.ref a), some (.int start), some (.int (m : Nat)), c3, c4, c5] ∧ Kp [] H H' ∧ ∀ j it, j < i → its[j]? = some it → goodR m (it.1, .list it.2) = true
def DueI (a l : Addr) (start : Int) (m : Nat) (z : Str) (ds : List PyData) (H : Hp) (i : Nat) (σ : L2.St) (H' : Hp) : Prop := ∃ c5, σ = [some (.ref a), some (.int start), some (.int (m : Nat)), some (.str z), some (.ref l), c5] ∧ Kp [] H H' ∧ ∀ j d, j < i → ds[j]? = some d → pairD m d = true
structure BtM (K : PySem.W.Frag) (mg : Str → Option Value) (CE NO BN BT : Addr) : Prop extends BtE K mg CE NO BN BT where
  b_list : mg "list" = none
structure BtU (mg : Str → Option Value) : Prop where
  b_len : mg "len" = none
  b_isinstance : mg "isinstance" = none
  b_tuple : mg "tuple" = none
section
variable {P : Program} {w : World} {K : PySem.W.Frag} {mg : Str → Option Value} {base : Heap}
def spDueI : Sp := fun vs H Q _ => ∃ (a : Addr) (its : List (Str × List PyData)) (start : Int), vs = [.ref a, .int start] ∧ Items H a its ∧ ItOk its ∧ resOk (dueT its start) H Q
theorem ok_law_due {f : Addr} {fd : FuncData} (D : Df K mg "_law_due" s_law_due ["_law_items", "_law_start"] f fd) (T : BtU mg) {fa : Addr} {fda : FuncData} (D_law_is_name : Df K mg "_law_is_name" s_law_is_name ["_law_name"] fa fda) (G_law_is_name : FnOk P w K mg base CX0 1 fa fda ["_law_name"] spIsN)
    {fb : Addr} {fdb : FuncData} (D_law_within : Df K mg "_law_within" s_law_within ["_law_x", "_law_least", "_law_most"] fb fdb) (G_law_within : FnOk P w K mg base CX0 1 fb fdb ["_law_x", "_law_least", "_law_most"] spWithin) : FnOk P w K mg base CX0 2 f fd ["_law_items", "_law_start"] spDueI := by
  refine D.F.ok sc_law_due (fun vs H Q E h => ?_) (fun cdv A outer s H vs Q E hr h => ?_)
  · obtain ⟨_, _, _, rfl, _⟩ := h
    rfl
  · obtain ⟨a, its, start, rfl, hI, hO, q0, q1⟩ := h
    refine ⟨_, (pss_cons (ps_if (PW.pt (pw_or (pt_cmpR op_lt (pe_callB (id := "len") (r := Evl.rLenS K) call_len_seq (by rfl) T.b_len PySem.boot_len (pa_cons (pv 0) pa_nil)) pe_int (nomark _)) (pw_or1 (pt_cmpR op_gt (pe_callB (id := "len") (r := Evl.rLenS K) call_len_seq (by rfl) T.b_len PySem.boot_len (pa_cons (pv 0) pa_nil)) pe_int (nomark _))))) (pss_one (ps_ret (pe_lst (pa_cons pe_str pa_nil)))) pss_nil)
      (pss_cons (ps_set (i := 2) sc_law_due.nd rfl (Or.inl rfl) (pe_callB (id := "len") (r := Evl.rLenS K) call_len_seq (by rfl) T.b_len PySem.boot_len (pa_cons (pe_ix (r := rIxL K) ix_list (pe_ix (r := rIxL K) ix_list (pv 0) pe_int (fun _ _ => rfl)) pe_int (fun _ _ => rfl)) pa_nil)))
      (pss_cons (ps_for PassesOwn.never rfl (pi_list (pv 0)) (pg_unl (n := 2) (by rfl) (pgs_cons (pg_name (i := 3) sc_law_due.nd rfl (Or.inl rfl)) (pgs_cons (pg_name (i := 4) sc_law_due.nd rfl (Or.inl rfl)) pgs_nil))) (pss_cons (ps_if (PW.pt (pw_or (pt_not (pt_val (pe_call G_law_is_name (hr.mono (by decide)) rfl D_law_is_name.g D_law_is_name.F.kp D_law_is_name.b .nil pass0 (pa_cons (pv 3) pa_nil)))) (pw_or (pt_cmpR op_lt (pv 2) pe_int (nomark _)) (pw_or (pt_cmpR op_gt (pv 2) pe_int (nomark _)) (pw_or1 (pt_cmpR op_ne (pe_callB (id := "len") (r := Evl.rLenS K) call_len_seq (by rfl) T.b_len PySem.boot_len (pa_cons (pv 4) pa_nil)) (pv 2) (nomark _))))))) (pss_one (ps_ret (pe_lst (pa_cons (pv 3) pa_nil)))) pss_nil)
      (pss_one (ps_for PassesOwn.never rfl (pi_list (pv 4)) (pg_name (i := 5) sc_law_due.nd rfl (Or.inl rfl)) (pss_cons (ps_if (PW.pt (pw_or (pt_not (pt_val (pe_callB (id := "isinstance") (r := rIsi K) call_isi (by rfl) T.b_isinstance (by decide +kernel) (pa_cons (pv 5) (pa_cons (pe_bltn (v := .ty "tuple") (by rfl) T.b_tuple (by decide +kernel) rfl) pa_nil))))) (pw_or1 (pt_cmpR op_ne (pe_callB (id := "len") (r := Evl.rLenS K) call_len_seq (by rfl) T.b_len PySem.boot_len (pa_cons (pv 5) pa_nil)) pe_int (nomark _))))) (pss_one (ps_ret (pe_lst (pa_cons (pv 3) pa_nil)))) pss_nil)
      (pss_one (ps_if (PW.pt (pw_or (pt_not (pt_val (pe_call G_law_within (hr.mono (by decide)) rfl D_law_within.g D_law_within.F.kp D_law_within.b .nil pass0 (pa_cons (pe_ix (r := rIxT K) ix_tup (pv 5) pe_int (fun _ _ => rfl)) (pa_cons pe_int (pa_cons pe_int pa_nil)))))) (pw_or1 (pt_not (pt_val (pe_call G_law_within (hr.mono (by decide)) rfl D_law_within.g D_law_within.F.kp D_law_within.b .nil pass0 (pa_cons (pe_ix (r := rIxT K) ix_tup (pv 5) pe_int (fun _ _ => rfl)) (pa_cons pe_int (pa_cons (pe_op op_sub (pv 2) pe_int) pa_nil))))))))) (pss_one (ps_ret (pe_lst (pa_cons (pv 3) pa_nil)))) pss_nil)))))))
      (pss_cons (ps_if (PW.pt (pw_or (pt_cmpR op_lt (pv 1) pe_int (nomark _)) (pw_or1 (pt_cmpR op_ge (pv 1) (pv 2) (nomark _))))) (pss_one (ps_ret (pe_lst (pa_cons pe_str pa_nil)))) pss_nil)
      (pss_one (ps_ret pe_non)))))), ?_⟩
    try simp only [tSeq, tIfS, tTest, tOp, tUn, tCB, tCons, tNil, tVar, tC, rI0, rI, rU, rEq, rNe, tRet, tRetN, tAsg, gName, gSub, tBM, tBM0, tNext, tB, tNot, tAnd, tOr, tIf, tCall, tDrop, tBreak, tCont, L2.start, tDGet, sDPut, tTup, tLst, tDNewK, tRevL, rCat, rAppend, rPop, rSetL, tAndV, tOrV, tNotV, tSl, tPart, tNoPart, tM1, gTup, gCons, gNil, cxK, cxnK, List.map_cons, List.map_nil, List.length_cons, List.length_nil, List.replicate, List.cons_append, List.nil_append, List.append_nil, List.set_cons_zero, List.set_cons_succ, List.getElem?_cons_zero, List.getElem?_cons_succ, Option.some.injEq, V.ref.injEq, V.int.injEq, V.str.injEq, V.bl.injEq, V.ty.injEq, exists_eq_left', exists_eq_left, exists_and_left, List.cons.injEq, and_true, true_and, sc_ii, sc_ss, sc_bb, sc_ni, sc_in, sc_is, sc_si, sc_nn, decide_true, decide_false, reduceCtorEq, Bool.false_eq_true, if_true, if_false, ite_true, ite_false, exists_const, eq_self, false_and, and_false, or_false, false_or, exists_false, Evl.rLenS, rSum, wipe, tYes, exists_eq, exists_eq', rIxL, rIxT, rIxS, exists_and_right, gt_iff_lt, not_true_eq_false, not_false_eq_true, Bool.not_true, Bool.not_false, decide_eq_true_eq, Nat.reduceSub, Nat.reduceAdd, List.append_assoc, tChain, tDIn, tDNotIn, sDDel, tAug, ipI]
    obtain ⟨vs, ha, hl, hv⟩ := hI
    refine ⟨_, .inl (sq_l ha), ?_⟩
    rw [hl]
    have word : ∀ {n : Str}, dueT its start = some n → ∀ {H5 : Hp}, Kp [] H H5 → 1 ≤ sizeLine ∧ ∀ (p : Addr), H5 p = none → Q (.ref p) (upd H5 p (.lst [.str n])) := fun {n} e {H5} k => ⟨by decide, fun p np => q1 n e p _ (k.free0 np) upd_same (k.trans (Kp.new np))⟩
    refine ite2 (fun h1 => word (due_few (.inl (by omega))) (Kp.refl _ _)) (fun h1 => ?_)
    refine ⟨_, .inl (sq_l ha), ?_⟩
    rw [hl]
    refine ite2 (fun h6 => word (due_few (.inr (by omega))) (Kp.refl _ _)) (fun h6 => ?_)
    have h1' : ¬ its.length < 1 := by omega
    have h6' : ¬ 6 < its.length := by omega
    have e0 : its[0]? = some its[0] := List.getElem?_eq_getElem (by omega)
    obtain ⟨v0, ev0, p0, l0, xs0, rfl, hp0, hl0, hd0⟩ := hv 0 _ e0
    have hm : headL its = its[0].2.length := by
      cases its with
      | nil => exact absurd (by simp) h1'
      | cons x r => rfl
    refine ⟨_, sq_l ha, .ref p0, atI_of (by decide) ev0, p0, rfl, _, sq_l hp0, .ref l0, rfl, l0, rfl, xs0, .inl (sq_l hl0), ?_⟩
    rw [hd0.len, ← hm]
    have good : ∀ {z : Str} {ds : List PyData}, goodR (headL its) (z, .list ds) = (nameS z && (decide (1 ≤ ds.length) && (decide (ds.length ≤ 100) && ds.all (pairD ds.length)) && (ds.length == headL its))) := fun {z ds} => rfl
    refine ⟨.ref a, rfl, a, rfl, ⟨_, sq_l ha⟩, for_list (K := K) (a := a) (xs := vs) (DueO a start (headL its) its H) ⟨_, _, _, rfl, Kp.refl _ _, fun j it hj => absurd hj (by omega)⟩ (fun i σ H' _ h => by obtain ⟨_, _, _, _, k, _⟩ := h; exact k.ls not0 (sq_l ha)) ?_ ?_⟩
    · rintro i x σ H1 hx ⟨c3, c4, c5, rfl, k1, hg⟩
      have il : i < its.length := by rw [← hl]; exact (List.getElem?_eq_some_iff.mp hx).1
      have ei : its[i]? = some its[i] := List.getElem?_eq_getElem il
      obtain ⟨v, ev, p, l, xs, rfl, hp, hlx, hd⟩ := hv i _ ei
      rw [hx] at ev
      cases ev
      obtain ⟨z8, szi, d1⟩ := hO.2 _ (List.mem_of_getElem? ei)
      generalize its[i] = it at ei hp hd z8 szi d1
      obtain ⟨z, ds⟩ := it
      have bad : goodR (headL its) (z, .list ds) = false → ∀ {H5 : Hp}, Kp [] H H5 → 1 ≤ sizeLine ∧ ∀ (p : Addr), H5 p = none → Q (.ref p) (upd H5 p (.lst [.str z])) := fun e {H5} k => word (due_at h1' h6' ei hg e) k
      try simp only [tSeq, tIfS, tTest, tOp, tUn, tCB, tCons, tNil, tVar, tC, rI0, rI, rU, rEq, rNe, tRet, tRetN, tAsg, gName, gSub, tBM, tBM0, tNext, tB, tNot, tAnd, tOr, tIf, tCall, tDrop, tBreak, tCont, L2.start, tDGet, sDPut, tTup, tLst, tDNewK, tRevL, rCat, rAppend, rPop, rSetL, tAndV, tOrV, tNotV, tSl, tPart, tNoPart, tM1, gTup, gCons, gNil, cxK, cxnK, List.map_cons, List.map_nil, List.length_cons, List.length_nil, List.replicate, List.cons_append, List.nil_append, List.append_nil, List.set_cons_zero, List.set_cons_succ, List.getElem?_cons_zero, List.getElem?_cons_succ, Option.some.injEq, V.ref.injEq, V.int.injEq, V.str.injEq, V.bl.injEq, V.ty.injEq, exists_eq_left', exists_eq_left, exists_and_left, List.cons.injEq, and_true, true_and, sc_ii, sc_ss, sc_bb, sc_ni, sc_in, sc_is, sc_si, sc_nn, decide_true, decide_false, reduceCtorEq, Bool.false_eq_true, if_true, if_false, ite_true, ite_false, exists_const, eq_self, false_and, and_false, or_false, false_or, exists_false, Evl.rLenS, rSum, wipe, tYes, exists_eq, exists_eq', rIxL, rIxT, rIxS, exists_and_right, gt_iff_lt, not_true_eq_false, not_false_eq_true, Bool.not_true, Bool.not_false, decide_eq_true_eq, Nat.reduceSub, Nat.reduceAdd, List.append_assoc, tChain, tDIn, tDNotIn, sDDel, tAug, ipI, gUnl]
      refine ⟨_, sq_l (k1 _ _ not0 hp), rfl, _, _, rfl, _, _, rfl, rfl, ?_⟩
      show spIsN [V.str z] H1 _ E0
      refine ⟨z, rfl, z8, ?_⟩
      cases hz : nameS z with
      | false =>
        try simp only [tSeq, tIfS, tTest, tOp, tUn, tCB, tCons, tNil, tVar, tC, rI0, rI, rU, rEq, rNe, tRet, tRetN, tAsg, gName, gSub, tBM, tBM0, tNext, tB, tNot, tAnd, tOr, tIf, tCall, tDrop, tBreak, tCont, L2.start, tDGet, sDPut, tTup, tLst, tDNewK, tRevL, rCat, rAppend, rPop, rSetL, tAndV, tOrV, tNotV, tSl, tPart, tNoPart, tM1, gTup, gCons, gNil, cxK, cxnK, List.map_cons, List.map_nil, List.length_cons, List.length_nil, List.replicate, List.cons_append, List.nil_append, List.append_nil, List.set_cons_zero, List.set_cons_succ, List.getElem?_cons_zero, List.getElem?_cons_succ, Option.some.injEq, V.ref.injEq, V.int.injEq, V.str.injEq, V.bl.injEq, V.ty.injEq, exists_eq_left', exists_eq_left, exists_and_left, List.cons.injEq, and_true, true_and, sc_ii, sc_ss, sc_bb, sc_ni, sc_in, sc_is, sc_si, sc_nn, decide_true, decide_false, reduceCtorEq, Bool.false_eq_true, if_true, if_false, ite_true, ite_false, exists_const, eq_self, false_and, and_false, or_false, false_or, exists_false, Evl.rLenS, rSum, wipe, tYes, exists_eq, exists_eq', rIxL, rIxT, rIxS, exists_and_right, gt_iff_lt, not_true_eq_false, not_false_eq_true, Bool.not_true, Bool.not_false, decide_eq_true_eq, Nat.reduceSub, Nat.reduceAdd, List.append_assoc, tChain, tDIn, tDNotIn, sDDel, tAug, ipI]
        exact bad (by rw [good, hz]; rfl) k1
      | true =>
      try simp only [tSeq, tIfS, tTest, tOp, tUn, tCB, tCons, tNil, tVar, tC, rI0, rI, rU, rEq, rNe, tRet, tRetN, tAsg, gName, gSub, tBM, tBM0, tNext, tB, tNot, tAnd, tOr, tIf, tCall, tDrop, tBreak, tCont, L2.start, tDGet, sDPut, tTup, tLst, tDNewK, tRevL, rCat, rAppend, rPop, rSetL, tAndV, tOrV, tNotV, tSl, tPart, tNoPart, tM1, gTup, gCons, gNil, cxK, cxnK, List.map_cons, List.map_nil, List.length_cons, List.length_nil, List.replicate, List.cons_append, List.nil_append, List.append_nil, List.set_cons_zero, List.set_cons_succ, List.getElem?_cons_zero, List.getElem?_cons_succ, Option.some.injEq, V.ref.injEq, V.int.injEq, V.str.injEq, V.bl.injEq, V.ty.injEq, exists_eq_left', exists_eq_left, exists_and_left, List.cons.injEq, and_true, true_and, sc_ii, sc_ss, sc_bb, sc_ni, sc_in, sc_is, sc_si, sc_nn, decide_true, decide_false, reduceCtorEq, Bool.false_eq_true, if_true, if_false, ite_true, ite_false, exists_const, eq_self, false_and, and_false, or_false, false_or, exists_false, Evl.rLenS, rSum, wipe, tYes, exists_eq, exists_eq', rIxL, rIxT, rIxS, exists_and_right, gt_iff_lt, not_true_eq_false, not_false_eq_true, Bool.not_true, Bool.not_false, decide_eq_true_eq, Nat.reduceSub, Nat.reduceAdd, List.append_assoc, tChain, tDIn, tDNotIn, sDDel, tAug, ipI]
      refine ite2 (fun hl1 => bad ?_ k1) (fun hl1 => ?_)
      · rw [good]
        by_cases e : ds.length = headL its
        · rw [decide_eq_false (show ¬ 1 ≤ ds.length by omega), Bool.false_and, Bool.false_and, Bool.and_false]
        · rw [beq_eq_false_iff_ne.mpr e, Bool.and_false, Bool.and_false]
      refine ite2 (fun hl2 => bad ?_ k1) (fun hl2 => ?_)
      · rw [good]
        by_cases e : ds.length = headL its
        · rw [decide_eq_false (show ¬ ds.length ≤ 100 by omega), Bool.false_and, Bool.and_false, Bool.false_and, Bool.and_false]
        · rw [beq_eq_false_iff_ne.mpr e, Bool.and_false, Bool.and_false]
      refine ⟨xs, .inl (sq_l (k1 _ _ not0 hlx)), ?_⟩
      have dl := hd.len
      rw [show xs.length = ds.length from dl]
      by_cases el : ds.length = headL its
      case neg =>
        rw [decide_eq_false (show ¬ ((ds.length : Nat) : Int) = (headL its : Nat) by omega)]
        try simp only [tSeq, tIfS, tTest, tOp, tUn, tCB, tCons, tNil, tVar, tC, rI0, rI, rU, rEq, rNe, tRet, tRetN, tAsg, gName, gSub, tBM, tBM0, tNext, tB, tNot, tAnd, tOr, tIf, tCall, tDrop, tBreak, tCont, L2.start, tDGet, sDPut, tTup, tLst, tDNewK, tRevL, rCat, rAppend, rPop, rSetL, tAndV, tOrV, tNotV, tSl, tPart, tNoPart, tM1, gTup, gCons, gNil, cxK, cxnK, List.map_cons, List.map_nil, List.length_cons, List.length_nil, List.replicate, List.cons_append, List.nil_append, List.append_nil, List.set_cons_zero, List.set_cons_succ, List.getElem?_cons_zero, List.getElem?_cons_succ, Option.some.injEq, V.ref.injEq, V.int.injEq, V.str.injEq, V.bl.injEq, V.ty.injEq, exists_eq_left', exists_eq_left, exists_and_left, List.cons.injEq, and_true, true_and, sc_ii, sc_ss, sc_bb, sc_ni, sc_in, sc_is, sc_si, sc_nn, decide_true, decide_false, reduceCtorEq, Bool.false_eq_true, if_true, if_false, ite_true, ite_false, exists_const, eq_self, false_and, and_false, or_false, false_or, exists_false, Evl.rLenS, rSum, wipe, tYes, exists_eq, exists_eq', rIxL, rIxT, rIxS, exists_and_right, gt_iff_lt, not_true_eq_false, not_false_eq_true, Bool.not_true, Bool.not_false, decide_eq_true_eq, Nat.reduceSub, Nat.reduceAdd, List.append_assoc, tChain, tDIn, tDNotIn, sDDel, tAug, ipI]
        refine bad ?_ k1
        rw [good, beq_eq_false_iff_ne.mpr el, Bool.and_false, Bool.and_false]
      rw [el, decide_eq_true rfl]
      try simp only [tSeq, tIfS, tTest, tOp, tUn, tCB, tCons, tNil, tVar, tC, rI0, rI, rU, rEq, rNe, tRet, tRetN, tAsg, gName, gSub, tBM, tBM0, tNext, tB, tNot, tAnd, tOr, tIf, tCall, tDrop, tBreak, tCont, L2.start, tDGet, sDPut, tTup, tLst, tDNewK, tRevL, rCat, rAppend, rPop, rSetL, tAndV, tOrV, tNotV, tSl, tPart, tNoPart, tM1, gTup, gCons, gNil, cxK, cxnK, List.map_cons, List.map_nil, List.length_cons, List.length_nil, List.replicate, List.cons_append, List.nil_append, List.append_nil, List.set_cons_zero, List.set_cons_succ, List.getElem?_cons_zero, List.getElem?_cons_succ, Option.some.injEq, V.ref.injEq, V.int.injEq, V.str.injEq, V.bl.injEq, V.ty.injEq, exists_eq_left', exists_eq_left, exists_and_left, List.cons.injEq, and_true, true_and, sc_ii, sc_ss, sc_bb, sc_ni, sc_in, sc_is, sc_si, sc_nn, decide_true, decide_false, reduceCtorEq, Bool.false_eq_true, if_true, if_false, ite_true, ite_false, exists_const, eq_self, false_and, and_false, or_false, false_or, exists_false, Evl.rLenS, rSum, wipe, tYes, exists_eq, exists_eq', rIxL, rIxT, rIxS, exists_and_right, gt_iff_lt, not_true_eq_false, not_false_eq_true, Bool.not_true, Bool.not_false, decide_eq_true_eq, Nat.reduceSub, Nat.reduceAdd, List.append_assoc, tChain, tDIn, tDNotIn, sDDel, tAug, ipI]
      have all_ : goodR (headL its) (z, .list ds) = ds.all (pairD (headL its : Nat)) := by
        rw [good, hz, el, decide_eq_true (by omega), decide_eq_true (by omega), beq_self_eq_true, Bool.and_true]; rfl
      refine ⟨.ref l, rfl, l, rfl, ⟨_, sq_l (k1 _ _ not0 hlx)⟩, for_list (K := K) (a := l) (xs := xs) (DueI a l start (headL its) z ds H) ⟨_, rfl, k1, fun j d hj => absurd hj (by omega)⟩ (fun i σ H' _ h => by obtain ⟨_, _, k, _⟩ := h; exact k.ls not0 (sq_l hlx)) ?_ ?_⟩
      · rintro j y σ H2 hy ⟨c5, rfl, k2, hp2⟩
        obtain ⟨d, ed, hq⟩ := hd.get hy
        have bad2 : pairD (headL its : Nat) d = false → ∀ {H5 : Hp}, Kp [] H H5 → 1 ≤ sizeLine ∧ ∀ (p : Addr), H5 p = none → Q (.ref p) (upd H5 p (.lst [.str z])) := fun e {H5} k => bad (by
          rw [all_, List.all_eq_false]
          exact ⟨d, List.mem_of_getElem? ed, by rw [e]; exact Bool.false_ne_true⟩) k
        have step : pairD (headL its : Nat) d = true → ∀ {H5 : Hp} {c : Option V}, Kp [] H H5 → DueI a l start (headL its) z ds H (j + 1) [some (.ref a), some (.int start), some (.int (headL its : Nat)), some (.str z), some (.ref l), c] H5 := fun e {H5 c} k => ⟨_, rfl, k, fun i' d' hi' ed' => by
          by_cases zj : i' = j
          · subst zj; rw [ed] at ed'; cases ed'; exact e
          · exact hp2 i' d' (by omega) ed'⟩
        have hq2 := hq.kp k2
        try simp only [tSeq, tIfS, tTest, tOp, tUn, tCB, tCons, tNil, tVar, tC, rI0, rI, rU, rEq, rNe, tRet, tRetN, tAsg, gName, gSub, tBM, tBM0, tNext, tB, tNot, tAnd, tOr, tIf, tCall, tDrop, tBreak, tCont, L2.start, tDGet, sDPut, tTup, tLst, tDNewK, tRevL, rCat, rAppend, rPop, rSetL, tAndV, tOrV, tNotV, tSl, tPart, tNoPart, tM1, gTup, gCons, gNil, cxK, cxnK, List.map_cons, List.map_nil, List.length_cons, List.length_nil, List.replicate, List.cons_append, List.nil_append, List.append_nil, List.set_cons_zero, List.set_cons_succ, List.getElem?_cons_zero, List.getElem?_cons_succ, Option.some.injEq, V.ref.injEq, V.int.injEq, V.str.injEq, V.bl.injEq, V.ty.injEq, exists_eq_left', exists_eq_left, exists_and_left, List.cons.injEq, and_true, true_and, sc_ii, sc_ss, sc_bb, sc_ni, sc_in, sc_is, sc_si, sc_nn, decide_true, decide_false, reduceCtorEq, Bool.false_eq_true, if_true, if_false, ite_true, ite_false, exists_const, eq_self, false_and, and_false, or_false, false_or, exists_false, Evl.rLenS, rSum, wipe, tYes, exists_eq, exists_eq', rIxL, rIxT, rIxS, exists_and_right, gt_iff_lt, not_true_eq_false, not_false_eq_true, Bool.not_true, Bool.not_false, decide_eq_true_eq, Nat.reduceSub, Nat.reduceAdd, List.append_assoc, tChain, tDIn, tDNotIn, sDDel, tAug, ipI]
        refine isi_Dtup hq2 ?_
        cases hq2 with
        | @tup b ws es eb hes =>
          try simp only [tSeq, tIfS, tTest, tOp, tUn, tCB, tCons, tNil, tVar, tC, rI0, rI, rU, rEq, rNe, tRet, tRetN, tAsg, gName, gSub, tBM, tBM0, tNext, tB, tNot, tAnd, tOr, tIf, tCall, tDrop, tBreak, tCont, L2.start, tDGet, sDPut, tTup, tLst, tDNewK, tRevL, rCat, rAppend, rPop, rSetL, tAndV, tOrV, tNotV, tSl, tPart, tNoPart, tM1, gTup, gCons, gNil, cxK, cxnK, List.map_cons, List.map_nil, List.length_cons, List.length_nil, List.replicate, List.cons_append, List.nil_append, List.append_nil, List.set_cons_zero, List.set_cons_succ, List.getElem?_cons_zero, List.getElem?_cons_succ, Option.some.injEq, V.ref.injEq, V.int.injEq, V.str.injEq, V.bl.injEq, V.ty.injEq, exists_eq_left', exists_eq_left, exists_and_left, List.cons.injEq, and_true, true_and, sc_ii, sc_ss, sc_bb, sc_ni, sc_in, sc_is, sc_si, sc_nn, decide_true, decide_false, reduceCtorEq, Bool.false_eq_true, if_true, if_false, ite_true, ite_false, exists_const, eq_self, false_and, and_false, or_false, false_or, exists_false, Evl.rLenS, rSum, wipe, tYes, exists_eq, exists_eq', rIxL, rIxT, rIxS, exists_and_right, gt_iff_lt, not_true_eq_false, not_false_eq_true, Bool.not_true, Bool.not_false, decide_eq_true_eq, Nat.reduceSub, Nat.reduceAdd, List.append_assoc, tChain, tDIn, tDNotIn, sDDel, tAug, ipI, isTupD]
          have el2 := hes.len
          refine ⟨ws, .inr (sq_t eb), ?_⟩
          rw [el2]
          by_cases h2 : es.length = 2
          case neg =>
            have e2 : ¬ ((es.length : Nat) : Int) = 2 := by omega
            rw [decide_eq_false e2]
            try simp only [tSeq, tIfS, tTest, tOp, tUn, tCB, tCons, tNil, tVar, tC, rI0, rI, rU, rEq, rNe, tRet, tRetN, tAsg, gName, gSub, tBM, tBM0, tNext, tB, tNot, tAnd, tOr, tIf, tCall, tDrop, tBreak, tCont, L2.start, tDGet, sDPut, tTup, tLst, tDNewK, tRevL, rCat, rAppend, rPop, rSetL, tAndV, tOrV, tNotV, tSl, tPart, tNoPart, tM1, gTup, gCons, gNil, cxK, cxnK, List.map_cons, List.map_nil, List.length_cons, List.length_nil, List.replicate, List.cons_append, List.nil_append, List.append_nil, List.set_cons_zero, List.set_cons_succ, List.getElem?_cons_zero, List.getElem?_cons_succ, Option.some.injEq, V.ref.injEq, V.int.injEq, V.str.injEq, V.bl.injEq, V.ty.injEq, exists_eq_left', exists_eq_left, exists_and_left, List.cons.injEq, and_true, true_and, sc_ii, sc_ss, sc_bb, sc_ni, sc_in, sc_is, sc_si, sc_nn, decide_true, decide_false, reduceCtorEq, Bool.false_eq_true, if_true, if_false, ite_true, ite_false, exists_const, eq_self, false_and, and_false, or_false, false_or, exists_false, Evl.rLenS, rSum, wipe, tYes, exists_eq, exists_eq', rIxL, rIxT, rIxS, exists_and_right, gt_iff_lt, not_true_eq_false, not_false_eq_true, Bool.not_true, Bool.not_false, decide_eq_true_eq, Nat.reduceSub, Nat.reduceAdd, List.append_assoc, tChain, tDIn, tDNotIn, sDDel, tAug, ipI]
            refine bad2 ?_ k2
            match es, h2 with
            | [], _ => rfl
            | [_], _ => rfl
            | _ :: _ :: _ :: _, _ => rfl
          obtain ⟨da, db, rfl⟩ : ∃ a b, es = [a, b] := by
            match es, h2 with
            | [a, b], _ => exact ⟨a, b, rfl⟩
          cases hes with
          | cons g1 gt =>
          cases gt with
          | cons g2 gt =>
          cases gt
          rw [decide_eq_true (show (((([da, db] : List PyData).length : Nat)) : Int) = 2 from rfl)]
          try simp only [tSeq, tIfS, tTest, tOp, tUn, tCB, tCons, tNil, tVar, tC, rI0, rI, rU, rEq, rNe, tRet, tRetN, tAsg, gName, gSub, tBM, tBM0, tNext, tB, tNot, tAnd, tOr, tIf, tCall, tDrop, tBreak, tCont, L2.start, tDGet, sDPut, tTup, tLst, tDNewK, tRevL, rCat, rAppend, rPop, rSetL, tAndV, tOrV, tNotV, tSl, tPart, tNoPart, tM1, gTup, gCons, gNil, cxK, cxnK, List.map_cons, List.map_nil, List.length_cons, List.length_nil, List.replicate, List.cons_append, List.nil_append, List.append_nil, List.set_cons_zero, List.set_cons_succ, List.getElem?_cons_zero, List.getElem?_cons_succ, Option.some.injEq, V.ref.injEq, V.int.injEq, V.str.injEq, V.bl.injEq, V.ty.injEq, exists_eq_left', exists_eq_left, exists_and_left, List.cons.injEq, and_true, true_and, sc_ii, sc_ss, sc_bb, sc_ni, sc_in, sc_is, sc_si, sc_nn, decide_true, decide_false, reduceCtorEq, Bool.false_eq_true, if_true, if_false, ite_true, ite_false, exists_const, eq_self, false_and, and_false, or_false, false_or, exists_false, Evl.rLenS, rSum, wipe, tYes, exists_eq, exists_eq', rIxL, rIxT, rIxS, exists_and_right, gt_iff_lt, not_true_eq_false, not_false_eq_true, Bool.not_true, Bool.not_false, decide_eq_true_eq, Nat.reduceSub, Nat.reduceAdd, List.append_assoc, tChain, tDIn, tDNotIn, sDDel, tAug, ipI]
          have pd : pairD (headL its : Nat) (.tuple [da, db]) = (belowD 10 da && belowD (headL its : Nat) db) := rfl
          rw [pd] at bad2 step
          refine ⟨_, sq_t eb, _, rfl, _, da, 10, rfl, g1, ?_⟩
          cases b1 : belowD 10 da with
          | false =>
            try simp only [tSeq, tIfS, tTest, tOp, tUn, tCB, tCons, tNil, tVar, tC, rI0, rI, rU, rEq, rNe, tRet, tRetN, tAsg, gName, gSub, tBM, tBM0, tNext, tB, tNot, tAnd, tOr, tIf, tCall, tDrop, tBreak, tCont, L2.start, tDGet, sDPut, tTup, tLst, tDNewK, tRevL, rCat, rAppend, rPop, rSetL, tAndV, tOrV, tNotV, tSl, tPart, tNoPart, tM1, gTup, gCons, gNil, cxK, cxnK, List.map_cons, List.map_nil, List.length_cons, List.length_nil, List.replicate, List.cons_append, List.nil_append, List.append_nil, List.set_cons_zero, List.set_cons_succ, List.getElem?_cons_zero, List.getElem?_cons_succ, Option.some.injEq, V.ref.injEq, V.int.injEq, V.str.injEq, V.bl.injEq, V.ty.injEq, exists_eq_left', exists_eq_left, exists_and_left, List.cons.injEq, and_true, true_and, sc_ii, sc_ss, sc_bb, sc_ni, sc_in, sc_is, sc_si, sc_nn, decide_true, decide_false, reduceCtorEq, Bool.false_eq_true, if_true, if_false, ite_true, ite_false, exists_const, eq_self, false_and, and_false, or_false, false_or, exists_false, Evl.rLenS, rSum, wipe, tYes, exists_eq, exists_eq', rIxL, rIxT, rIxS, exists_and_right, gt_iff_lt, not_true_eq_false, not_false_eq_true, Bool.not_true, Bool.not_false, decide_eq_true_eq, Nat.reduceSub, Nat.reduceAdd, List.append_assoc, tChain, tDIn, tDNotIn, sDDel, tAug, ipI]
            exact bad2 (by rw [b1]; rfl) k2
          | true =>
          try simp only [tSeq, tIfS, tTest, tOp, tUn, tCB, tCons, tNil, tVar, tC, rI0, rI, rU, rEq, rNe, tRet, tRetN, tAsg, gName, gSub, tBM, tBM0, tNext, tB, tNot, tAnd, tOr, tIf, tCall, tDrop, tBreak, tCont, L2.start, tDGet, sDPut, tTup, tLst, tDNewK, tRevL, rCat, rAppend, rPop, rSetL, tAndV, tOrV, tNotV, tSl, tPart, tNoPart, tM1, gTup, gCons, gNil, cxK, cxnK, List.map_cons, List.map_nil, List.length_cons, List.length_nil, List.replicate, List.cons_append, List.nil_append, List.append_nil, List.set_cons_zero, List.set_cons_succ, List.getElem?_cons_zero, List.getElem?_cons_succ, Option.some.injEq, V.ref.injEq, V.int.injEq, V.str.injEq, V.bl.injEq, V.ty.injEq, exists_eq_left', exists_eq_left, exists_and_left, List.cons.injEq, and_true, true_and, sc_ii, sc_ss, sc_bb, sc_ni, sc_in, sc_is, sc_si, sc_nn, decide_true, decide_false, reduceCtorEq, Bool.false_eq_true, if_true, if_false, ite_true, ite_false, exists_const, eq_self, false_and, and_false, or_false, false_or, exists_false, Evl.rLenS, rSum, wipe, tYes, exists_eq, exists_eq', rIxL, rIxT, rIxS, exists_and_right, gt_iff_lt, not_true_eq_false, not_false_eq_true, Bool.not_true, Bool.not_false, decide_eq_true_eq, Nat.reduceSub, Nat.reduceAdd, List.append_assoc, tChain, tDIn, tDNotIn, sDDel, tAug, ipI]
          refine ⟨_, sq_t eb, _, rfl, _, db, _, rfl, g2, ?_⟩
          cases b2 : belowD (headL its : Nat) db with
          | false =>
            try simp only [tSeq, tIfS, tTest, tOp, tUn, tCB, tCons, tNil, tVar, tC, rI0, rI, rU, rEq, rNe, tRet, tRetN, tAsg, gName, gSub, tBM, tBM0, tNext, tB, tNot, tAnd, tOr, tIf, tCall, tDrop, tBreak, tCont, L2.start, tDGet, sDPut, tTup, tLst, tDNewK, tRevL, rCat, rAppend, rPop, rSetL, tAndV, tOrV, tNotV, tSl, tPart, tNoPart, tM1, gTup, gCons, gNil, cxK, cxnK, List.map_cons, List.map_nil, List.length_cons, List.length_nil, List.replicate, List.cons_append, List.nil_append, List.append_nil, List.set_cons_zero, List.set_cons_succ, List.getElem?_cons_zero, List.getElem?_cons_succ, Option.some.injEq, V.ref.injEq, V.int.injEq, V.str.injEq, V.bl.injEq, V.ty.injEq, exists_eq_left', exists_eq_left, exists_and_left, List.cons.injEq, and_true, true_and, sc_ii, sc_ss, sc_bb, sc_ni, sc_in, sc_is, sc_si, sc_nn, decide_true, decide_false, reduceCtorEq, Bool.false_eq_true, if_true, if_false, ite_true, ite_false, exists_const, eq_self, false_and, and_false, or_false, false_or, exists_false, Evl.rLenS, rSum, wipe, tYes, exists_eq, exists_eq', rIxL, rIxT, rIxS, exists_and_right, gt_iff_lt, not_true_eq_false, not_false_eq_true, Bool.not_true, Bool.not_false, decide_eq_true_eq, Nat.reduceSub, Nat.reduceAdd, List.append_assoc, tChain, tDIn, tDNotIn, sDDel, tAug, ipI]
            exact bad2 (by rw [b1, b2]; rfl) k2
          | true =>
          try simp only [tSeq, tIfS, tTest, tOp, tUn, tCB, tCons, tNil, tVar, tC, rI0, rI, rU, rEq, rNe, tRet, tRetN, tAsg, gName, gSub, tBM, tBM0, tNext, tB, tNot, tAnd, tOr, tIf, tCall, tDrop, tBreak, tCont, L2.start, tDGet, sDPut, tTup, tLst, tDNewK, tRevL, rCat, rAppend, rPop, rSetL, tAndV, tOrV, tNotV, tSl, tPart, tNoPart, tM1, gTup, gCons, gNil, cxK, cxnK, List.map_cons, List.map_nil, List.length_cons, List.length_nil, List.replicate, List.cons_append, List.nil_append, List.append_nil, List.set_cons_zero, List.set_cons_succ, List.getElem?_cons_zero, List.getElem?_cons_succ, Option.some.injEq, V.ref.injEq, V.int.injEq, V.str.injEq, V.bl.injEq, V.ty.injEq, exists_eq_left', exists_eq_left, exists_and_left, List.cons.injEq, and_true, true_and, sc_ii, sc_ss, sc_bb, sc_ni, sc_in, sc_is, sc_si, sc_nn, decide_true, decide_false, reduceCtorEq, Bool.false_eq_true, if_true, if_false, ite_true, ite_false, exists_const, eq_self, false_and, and_false, or_false, false_or, exists_false, Evl.rLenS, rSum, wipe, tYes, exists_eq, exists_eq', rIxL, rIxT, rIxS, exists_and_right, gt_iff_lt, not_true_eq_false, not_false_eq_true, Bool.not_true, Bool.not_false, decide_eq_true_eq, Nat.reduceSub, Nat.reduceAdd, List.append_assoc, tChain, tDIn, tDNotIn, sDDel, tAug, ipI]
          exact step (by rw [b1, b2]; rfl) k2
        | _ =>
          try simp only [tSeq, tIfS, tTest, tOp, tUn, tCB, tCons, tNil, tVar, tC, rI0, rI, rU, rEq, rNe, tRet, tRetN, tAsg, gName, gSub, tBM, tBM0, tNext, tB, tNot, tAnd, tOr, tIf, tCall, tDrop, tBreak, tCont, L2.start, tDGet, sDPut, tTup, tLst, tDNewK, tRevL, rCat, rAppend, rPop, rSetL, tAndV, tOrV, tNotV, tSl, tPart, tNoPart, tM1, gTup, gCons, gNil, cxK, cxnK, List.map_cons, List.map_nil, List.length_cons, List.length_nil, List.replicate, List.cons_append, List.nil_append, List.append_nil, List.set_cons_zero, List.set_cons_succ, List.getElem?_cons_zero, List.getElem?_cons_succ, Option.some.injEq, V.ref.injEq, V.int.injEq, V.str.injEq, V.bl.injEq, V.ty.injEq, exists_eq_left', exists_eq_left, exists_and_left, List.cons.injEq, and_true, true_and, sc_ii, sc_ss, sc_bb, sc_ni, sc_in, sc_is, sc_si, sc_nn, decide_true, decide_false, reduceCtorEq, Bool.false_eq_true, if_true, if_false, ite_true, ite_false, exists_const, eq_self, false_and, and_false, or_false, false_or, exists_false, Evl.rLenS, rSum, wipe, tYes, exists_eq, exists_eq', rIxL, rIxT, rIxS, exists_and_right, gt_iff_lt, not_true_eq_false, not_false_eq_true, Bool.not_true, Bool.not_false, decide_eq_true_eq, Nat.reduceSub, Nat.reduceAdd, List.append_assoc, tChain, tDIn, tDNotIn, sDDel, tAug, ipI, isTupD]
          exact bad2 rfl k2
      · rintro σ H2 ⟨c5, rfl, k2, hp2⟩
        try simp only [tSeq, tIfS, tTest, tOp, tUn, tCB, tCons, tNil, tVar, tC, rI0, rI, rU, rEq, rNe, tRet, tRetN, tAsg, gName, gSub, tBM, tBM0, tNext, tB, tNot, tAnd, tOr, tIf, tCall, tDrop, tBreak, tCont, L2.start, tDGet, sDPut, tTup, tLst, tDNewK, tRevL, rCat, rAppend, rPop, rSetL, tAndV, tOrV, tNotV, tSl, tPart, tNoPart, tM1, gTup, gCons, gNil, cxK, cxnK, List.map_cons, List.map_nil, List.length_cons, List.length_nil, List.replicate, List.cons_append, List.nil_append, List.append_nil, List.set_cons_zero, List.set_cons_succ, List.getElem?_cons_zero, List.getElem?_cons_succ, Option.some.injEq, V.ref.injEq, V.int.injEq, V.str.injEq, V.bl.injEq, V.ty.injEq, exists_eq_left', exists_eq_left, exists_and_left, List.cons.injEq, and_true, true_and, sc_ii, sc_ss, sc_bb, sc_ni, sc_in, sc_is, sc_si, sc_nn, decide_true, decide_false, reduceCtorEq, Bool.false_eq_true, if_true, if_false, ite_true, ite_false, exists_const, eq_self, false_and, and_false, or_false, false_or, exists_false, Evl.rLenS, rSum, wipe, tYes, exists_eq, exists_eq', rIxL, rIxT, rIxS, exists_and_right, gt_iff_lt, not_true_eq_false, not_false_eq_true, Bool.not_true, Bool.not_false, decide_eq_true_eq, Nat.reduceSub, Nat.reduceAdd, List.append_assoc, tChain, tDIn, tDNotIn, sDDel, tAug, ipI]
        refine ⟨_, _, _, rfl, k2, fun j jt hj ej => ?_⟩
        by_cases zj : j = i
        · subst zj; rw [ei] at ej; cases ej
          rw [all_, List.all_eq_true]
          intro d hd'
          obtain ⟨j', ej'⟩ := List.getElem?_of_mem hd'
          exact hp2 j' d (by rw [dl]; exact (List.getElem?_eq_some_iff.mp ej').1) ej'
        · exact hg j jt (by omega) ej
    · rintro σ H1 ⟨c3, c4, c5, rfl, k1, hg⟩
      try simp only [tSeq, tIfS, tTest, tOp, tUn, tCB, tCons, tNil, tVar, tC, rI0, rI, rU, rEq, rNe, tRet, tRetN, tAsg, gName, gSub, tBM, tBM0, tNext, tB, tNot, tAnd, tOr, tIf, tCall, tDrop, tBreak, tCont, L2.start, tDGet, sDPut, tTup, tLst, tDNewK, tRevL, rCat, rAppend, rPop, rSetL, tAndV, tOrV, tNotV, tSl, tPart, tNoPart, tM1, gTup, gCons, gNil, cxK, cxnK, List.map_cons, List.map_nil, List.length_cons, List.length_nil, List.replicate, List.cons_append, List.nil_append, List.append_nil, List.set_cons_zero, List.set_cons_succ, List.getElem?_cons_zero, List.getElem?_cons_succ, Option.some.injEq, V.ref.injEq, V.int.injEq, V.str.injEq, V.bl.injEq, V.ty.injEq, exists_eq_left', exists_eq_left, exists_and_left, List.cons.injEq, and_true, true_and, sc_ii, sc_ss, sc_bb, sc_ni, sc_in, sc_is, sc_si, sc_nn, decide_true, decide_false, reduceCtorEq, Bool.false_eq_true, if_true, if_false, ite_true, ite_false, exists_const, eq_self, false_and, and_false, or_false, false_or, exists_false, Evl.rLenS, rSum, wipe, tYes, exists_eq, exists_eq', rIxL, rIxT, rIxS, exists_and_right, gt_iff_lt, not_true_eq_false, not_false_eq_true, Bool.not_true, Bool.not_false, decide_eq_true_eq, Nat.reduceSub, Nat.reduceAdd, List.append_assoc, tChain, tDIn, tDNotIn, sDDel, tAug, ipI]
      have de := due_end (start := start) h1' h6' fun it hi => by
        obtain ⟨j, ej⟩ := List.getElem?_of_mem hi
        exact hg j it (by rw [hl]; exact (List.getElem?_eq_some_iff.mp ej).1) ej
      have bl : belowD (headL its) (.int start) = (decide (0 ≤ start) && decide (start < (headL its : Nat))) := rfl
      rw [bl] at de
      refine ite2 (fun s0 => word ?_ k1) (fun s0 => ?_)
      · rw [de, decide_eq_false (show ¬ 0 ≤ start by omega)]; rfl
      refine ite2 (fun s1 => word ?_ k1) (fun s1 => q0 ?_ _ k1)
      · rw [de, decide_eq_false (show ¬ start < (headL its : Nat) by omega), Bool.and_false]; rfl
      · rw [de, decide_eq_true (show 0 ≤ start by omega), decide_eq_true (show start < (headL its : Nat) by omega)]; rfl
def MadeI (a r : Addr) (start : Int) (its : List (Str × List PyData)) (H : Hp) (i : Nat) (σ : L2.St) (H' : Hp) : Prop := ∃ c3 c4, σ = [some (.ref a), some (.int start), some (.ref r), c3, c4, none] ∧ Kp [] H H' ∧ ∃ kvs, H' r = some (.dK kvs) ∧ RowsD H' kvs (rowsI (its.take i))
theorem ok_law_made {f : Addr} {fd : FuncData} (D : Df K mg "_law_made" s_law_made ["_law_items", "_law_start"] f fd) {CE NO BN BT TC fI : Addr} {fdI : FuncData} (T0 : BtE K mg CE NO BN BT) (hlist : mg "list" = none) (C : TbC K mg TC)
    (M_Table : Mk K TC fI) (bI_Table : Binds K fdI ["self", "rows", "first"] []) (G_Table_init : FnOk P w K mg base (L2.CX P w) 6 fI fdI ["self", "rows", "first"] (spTI TC BT)) : FnOk P w K mg base CX0 8 f fd ["_law_items", "_law_start"] (fun vs H Q _ => ∃ (a : Addr) (its : List (Str × List PyData)) (start : Int), vs = [.ref a, .int start] ∧ Items H a its ∧ ItOk its ∧ (its.map (·.1)).Nodup ∧ resOk (dueT its start) H Q) := by
  refine D.F.ok sc_law_made (fun vs H Q E h => ?_) (fun cdv A outer s H vs Q E hr h => ?_)
  · obtain ⟨_, _, _, rfl, _⟩ := h
    rfl
  · obtain ⟨a, its, start, rfl, hI, hO, nd, q0, q1⟩ := h
    have hu := hu_of hr
    have XF_BadTable := T0.XT
    have NO_name := T0.fT
    have T : BtM K mg CE NO BN BT := ⟨T0, hlist⟩
    refine ⟨_, (pss_cons (ps_set (i := 2) sc_law_made.nd rfl (Or.inl rfl) pe_dnewK)
      (pss_cons (ps_for PassesOwn.never rfl (pi_list (pv 0)) (pg_unl (n := 2) (by rfl) (pgs_cons (pg_name (i := 3) sc_law_made.nd rfl (Or.inl rfl)) (pgs_cons (pg_name (i := 4) sc_law_made.nd rfl (Or.inl rfl)) pgs_nil))) (pss_one (ps_dput hu (pv 2) (pv 3) (pe_callTy call_list_of (by rfl) T.b_list (by decide +kernel) (pa_cons (pv 4) pa_nil)) rfl)))
      (pss_cons (ps_try_as (i := 5) rfl rfl sc_law_made.nd rfl rfl ⟨rfl, by decide, .inl T.k_BadTable⟩ takes0 (fun W pn xe tk _ => (pss_one (ps_expr (pe_makeS M_Table G_Table_init (hr.mono (by decide)) rfl C.k bI_Table .nil (fun σ => passAt tk σ) (pa_cons (pv 2) (pa_cons (pv 1) pa_nil)))))) (fun a oe cls d pn hz hf => (pss_cons (ps_if (PW.pt (pw_and (pt_val (pe_callB (id := "isinstance") (r := rIsX K a cls d) (call_isX hz hf) (by rfl) T.b_isinstance (by decide +kernel) (pa_cons (pv 5) (pa_cons (pe_glob (v := .ref CE) rfl T.k_CoreError rfl) pa_nil)))) (pw_and (pt_val (pe_callB (id := "isinstance") (r := rIsX K a cls d) (call_isX hz hf) (by rfl) T.b_isinstance (by decide +kernel) (pa_cons (pv 5) (pa_cons (pe_bltn (v := .ty "ValueError") (by rfl) T.b_ValueError (by decide +kernel) rfl) pa_nil)))) (pw_and1 (pt_not (pt_val (pe_callB (id := "isinstance") (r := rIsXT K a cls d) (call_isXT hz hf) (by rfl) T.b_isinstance (by decide +kernel) (pa_cons (pv 5) (pa_cons (pe_tup (pa_cons (pe_glob (v := .ref NO) rfl T.k_NoOperation rfl) (pa_cons (pe_glob (v := .ref BN) rfl T.k_BadNumber rfl) pa_nil))) pa_nil))))))))) (pss_one (ps_ret (pe_lst (pa_cons (pe_xf XF_BadTable NO_name hz hf (pv 5)) pa_nil)))) pss_nil)
      (pss_one (ps_ret (pe_lst pa_nil))))))
      (pss_one (ps_ret pe_non))))), ?_⟩
    try simp only [tSeq, tIfS, tTest, tOp, tUn, tCB, tCons, tNil, tVar, tC, rI0, rI, rU, rEq, rNe, tRet, tRetN, tAsg, gName, gSub, tBM, tBM0, tNext, tB, tNot, tAnd, tOr, tIf, tCall, tDrop, tBreak, tCont, L2.start, tDGet, sDPut, tTup, tLst, tDNewK, tRevL, rCat, rAppend, rPop, rSetL, tAndV, tOrV, tNotV, tSl, tPart, tNoPart, tM1, gTup, gCons, gNil, cxK, cxnK, List.map_cons, List.map_nil, List.length_cons, List.length_nil, List.replicate, List.cons_append, List.nil_append, List.append_nil, List.set_cons_zero, List.set_cons_succ, List.getElem?_cons_zero, List.getElem?_cons_succ, Option.some.injEq, V.ref.injEq, V.int.injEq, V.str.injEq, V.bl.injEq, V.ty.injEq, exists_eq_left', exists_eq_left, exists_and_left, List.cons.injEq, and_true, true_and, sc_ii, sc_ss, sc_bb, sc_ni, sc_in, sc_is, sc_si, sc_nn, decide_true, decide_false, reduceCtorEq, Bool.false_eq_true, if_true, if_false, ite_true, ite_false, exists_const, eq_self, false_and, and_false, or_false, false_or, exists_false, Evl.rLenS, rSum, wipe, tYes, exists_eq, exists_eq', rIxL, rIxT, rIxS, exists_and_right, gt_iff_lt, not_true_eq_false, not_false_eq_true, Bool.not_true, Bool.not_false, decide_eq_true_eq, Nat.reduceSub, Nat.reduceAdd, List.append_assoc, tChain, tDIn, tDNotIn, sDDel, tAug, ipI]
    intro r nr
    have k0 : Kp [] H (upd H r (.dK [])) := Kp.new nr
    obtain ⟨vs, ha, hl, hv⟩ := hI
    have hr0 : (upd H r (.dK [])) r = some (.dK []) := upd_same
    generalize (upd H r (.dK [])) = H0 at k0 hr0 ⊢
    refine ⟨.ref a, rfl, a, rfl, ⟨_, sq_l (k0 _ _ not0 ha)⟩, for_list (K := K) (a := a) (xs := vs) (MadeI a r start its H) ⟨_, _, rfl, k0, [], hr0, ⟨rfl, fun i k v e => by cases e⟩⟩ (fun i σ H' _ h => by obtain ⟨_, _, _, k, _⟩ := h; exact k.ls not0 (sq_l ha)) ?_ ?_⟩
    · rintro i x σ H1 hx ⟨c3, c4, rfl, k1, kvs, hr1, hrows⟩
      have il : i < its.length := by rw [← hl]; exact (List.getElem?_eq_some_iff.mp hx).1
      have ei : its[i]? = some its[i] := List.getElem?_eq_getElem il
      obtain ⟨v, ev, p, l, xs, rfl, hp, hlx, hd⟩ := hv i _ ei
      rw [hx] at ev
      cases ev
      obtain ⟨z8, szi, d1⟩ := hO.2 _ (List.mem_of_getElem? ei)
      try simp only [tSeq, tIfS, tTest, tOp, tUn, tCB, tCons, tNil, tVar, tC, rI0, rI, rU, rEq, rNe, tRet, tRetN, tAsg, gName, gSub, tBM, tBM0, tNext, tB, tNot, tAnd, tOr, tIf, tCall, tDrop, tBreak, tCont, L2.start, tDGet, sDPut, tTup, tLst, tDNewK, tRevL, rCat, rAppend, rPop, rSetL, tAndV, tOrV, tNotV, tSl, tPart, tNoPart, tM1, gTup, gCons, gNil, cxK, cxnK, List.map_cons, List.map_nil, List.length_cons, List.length_nil, List.replicate, List.cons_append, List.nil_append, List.append_nil, List.set_cons_zero, List.set_cons_succ, List.getElem?_cons_zero, List.getElem?_cons_succ, Option.some.injEq, V.ref.injEq, V.int.injEq, V.str.injEq, V.bl.injEq, V.ty.injEq, exists_eq_left', exists_eq_left, exists_and_left, List.cons.injEq, and_true, true_and, sc_ii, sc_ss, sc_bb, sc_ni, sc_in, sc_is, sc_si, sc_nn, decide_true, decide_false, reduceCtorEq, Bool.false_eq_true, if_true, if_false, ite_true, ite_false, exists_const, eq_self, false_and, and_false, or_false, false_or, exists_false, Evl.rLenS, rSum, wipe, tYes, exists_eq, exists_eq', rIxL, rIxT, rIxS, exists_and_right, gt_iff_lt, not_true_eq_false, not_false_eq_true, Bool.not_true, Bool.not_false, decide_eq_true_eq, Nat.reduceSub, Nat.reduceAdd, List.append_assoc, tChain, tDIn, tDNotIn, sDDel, tAug, ipI, gUnl, sDPut]
      refine ⟨_, sq_l (k1 _ _ not0 hp), rfl, _, _, rfl, _, _, rfl, rfl, l, rfl, xs, .inl (sq_l (k1 _ _ not0 hlx)), fun l2 nl2 => ?_⟩
      have k2 : Kp [] H1 (upd H1 l2 (.lst xs)) := Kp.new nl2
      have h2 : (upd H1 l2 (.lst xs)) l2 = some (.lst xs) := upd_same
      generalize (upd H1 l2 (.lst xs)) = H2 at k2 h2 ⊢
      have hr2 := k2 _ _ not0 hr1
      have ndi : (its.map (·.1))[i]? = some its[i].1 := by rw [List.getElem?_map, ei]; rfl
      have tk : rowsI (its.take (i + 1)) = rowsI (its.take i) ++ [(its[i].1, .list its[i].2)] := by
        rw [take_snoc ei]; unfold rowsI; rw [List.map_append]; rfl
      have fr : (Sum.inr its[i].1 : Key) ∉ kvs.map (·.1) := by
        rw [hrows.keys]
        intro hm
        obtain ⟨n', hn', e⟩ := List.mem_map.mp hm
        cases e
        have e3 : (rowsI (its.take i)).map (·.1) = (its.map (·.1)).take i := by
          unfold rowsI; rw [List.map_map, ← List.map_take]; rfl
        rw [e3] at hn'
        exact nd_fresh nd ndi hn'
      have lk : kvs.length ≤ 1000 := by
        have h1 := hrows.1
        have h3 : (rowsI (its.take i)).length = (its.take i).length := List.length_map ..
        have h4 := hO.1
        rw [List.length_take] at h3
        omega
      refine ⟨_, .inl ⟨kvs, Sum.inr its[i].1, hr2, rfl, smallL (by omega), rfl⟩, ?_⟩
      rw [putK_new _ (valV_fresh fr)]
      have kw : Kp [r] H2 (upd H2 r (.dK (kvs ++ [(Sum.inr its[i].1, .ref l2)]))) := (Kp.refl [r] _).put List.mem_cons_self
      refine ⟨_, _, rfl, (k1.trans k2).wr nr, _, upd_same, ?_⟩
      rw [tk]
      have hdn : Dq H2 (.ref l2) (.list its[i].2) := .lst h2 (hd.kp (k1.trans k2))
      exact RowsD.app ((hrows.kp k2).kpN kw (dk_no hr2)) (hdn.kpN kw (dk_no hr2)) szi (fun ds e => by cases e; exact d1) z8
    · rintro σ H1 ⟨c3, c4, rfl, k1, kvs, hr1, hrows⟩
      rw [hl, List.take_length] at hrows
      try simp only [tSeq, tIfS, tTest, tOp, tUn, tCB, tCons, tNil, tVar, tC, rI0, rI, rU, rEq, rNe, tRet, tRetN, tAsg, gName, gSub, tBM, tBM0, tNext, tB, tNot, tAnd, tOr, tIf, tCall, tDrop, tBreak, tCont, L2.start, tDGet, sDPut, tTup, tLst, tDNewK, tRevL, rCat, rAppend, rPop, rSetL, tAndV, tOrV, tNotV, tSl, tPart, tNoPart, tM1, gTup, gCons, gNil, cxK, cxnK, List.map_cons, List.map_nil, List.length_cons, List.length_nil, List.replicate, List.cons_append, List.nil_append, List.append_nil, List.set_cons_zero, List.set_cons_succ, List.getElem?_cons_zero, List.getElem?_cons_succ, Option.some.injEq, V.ref.injEq, V.int.injEq, V.str.injEq, V.bl.injEq, V.ty.injEq, exists_eq_left', exists_eq_left, exists_and_left, List.cons.injEq, and_true, true_and, sc_ii, sc_ss, sc_bb, sc_ni, sc_in, sc_is, sc_si, sc_nn, decide_true, decide_false, reduceCtorEq, Bool.false_eq_true, if_true, if_false, ite_true, ite_false, exists_const, eq_self, false_and, and_false, or_false, false_or, exists_false, Evl.rLenS, rSum, wipe, tYes, exists_eq, exists_eq', rIxL, rIxT, rIxS, exists_and_right, gt_iff_lt, not_true_eq_false, not_false_eq_true, Bool.not_true, Bool.not_false, decide_eq_true_eq, Nat.reduceSub, Nat.reduceAdd, List.append_assoc, tChain, tDIn, tDNotIn, sDDel, tAug, ipI, tMakeS]
      intro o d no nd_ ne_
      have k3 : Kp [] H1 (upd (upd H1 d (.own o)) o (.ins TC d [])) := (Kp.new nd_).trans (Kp.new (by rw [upd_ne ne_.symm]; exact no))
      have ndk : (kvs.map (·.1)).Nodup := by
        rw [hrows.keys]
        have n0 : ((rowsI its).map (·.1)).Nodup := by
          unfold rowsI; rw [List.map_map]; exact nd
        exact List.pairwise_map.mpr (n0.imp fun h e => h (by cases e; rfl))
      have kl : kvs.length ≤ 1000 := by
        have h1 := hrows.1
        have h3 : (rowsI its).length = its.length := List.length_map ..
        have h4 := hO.1
        omega
      have back : ∀ {H' : Hp}, Kp [o] (upd (upd H1 d (.own o)) o (.ins TC d [])) H' → Kp [] H H' := fun {H'} k' a o' _ ea => k' a o' (not1 fun w => by rw [w, k1.free0 no] at ea; cases ea) (k3 _ _ not0 (k1 _ _ not0 ea))
      refine ⟨o, d, r, .int start, .int start, kvs, rowsI its, rfl, upd_same, k3 _ _ not0 hr1, hrows.kp k3, ndk, kl, .int _, fun rb i ei i0 i1 H' hT _ k' => ?_, fun nm hbad x H' nx hx k' => ?_⟩
      · cases ei
        refine ⟨rfl, q0 ?_ H' (back k')⟩
        unfold dueT
        rw [rb]
        have : belowD (lenD ((rowsI its).headD ("", .none)).2) (.int start) = true := by
          show (decide (0 ≤ start) && decide (start < _)) = true
          rw [decide_eq_true i0, decide_eq_true i1]; rfl
        exact if_pos this
      · have ed : dueT its start = some nm := by
          unfold dueT
          rcases hbad with h | ⟨h, hb, e⟩
          · rw [h]
          · rw [h, e]
            exact if_neg (by rw [hb]; exact Bool.false_ne_true)
        have nx0 : H x = none := by
          have xo : x ≠ o := fun w => by rw [w, upd_same] at nx; cases nx
          exact (k1.trans k3).free0 nx
        have kb := back k'
        refine ⟨true, T0.ET, fun _ y ny => ?_, fun z => by cases z⟩
        try simp only [tSeq, tIfS, tTest, tOp, tUn, tCB, tCons, tNil, tVar, tC, rI0, rI, rU, rEq, rNe, tRet, tRetN, tAsg, gName, gSub, tBM, tBM0, tNext, tB, tNot, tAnd, tOr, tIf, tCall, tDrop, tBreak, tCont, L2.start, tDGet, sDPut, tTup, tLst, tDNewK, tRevL, rCat, rAppend, rPop, rSetL, tAndV, tOrV, tNotV, tSl, tPart, tNoPart, tM1, gTup, gCons, gNil, cxK, cxnK, List.map_cons, List.map_nil, List.length_cons, List.length_nil, List.replicate, List.cons_append, List.nil_append, List.append_nil, List.set_cons_zero, List.set_cons_succ, List.getElem?_cons_zero, List.getElem?_cons_succ, Option.some.injEq, V.ref.injEq, V.int.injEq, V.str.injEq, V.bl.injEq, V.ty.injEq, exists_eq_left', exists_eq_left, exists_and_left, List.cons.injEq, and_true, true_and, sc_ii, sc_ss, sc_bb, sc_ni, sc_in, sc_is, sc_si, sc_nn, decide_true, decide_false, reduceCtorEq, Bool.false_eq_true, if_true, if_false, ite_true, ite_false, exists_const, eq_self, false_and, and_false, or_false, false_or, exists_false, Evl.rLenS, rSum, wipe, tYes, exists_eq, exists_eq', rIxL, rIxT, rIxS, exists_and_right, gt_iff_lt, not_true_eq_false, not_false_eq_true, Bool.not_true, Bool.not_false, decide_eq_true_eq, Nat.reduceSub, Nat.reduceAdd, List.append_assoc, tChain, tDIn, tDNotIn, sDDel, tAug, ipI, tXf, Ends.off]
        refine ⟨.ref CE, .ref CE, true, BT, x, _, rfl, fun u h => h, rfl, rfl, hx, T0.KT, T0.t1, true, rfl, ?_⟩
        try simp only [tSeq, tIfS, tTest, tOp, tUn, tCB, tCons, tNil, tVar, tC, rI0, rI, rU, rEq, rNe, tRet, tRetN, tAsg, gName, gSub, tBM, tBM0, tNext, tB, tNot, tAnd, tOr, tIf, tCall, tDrop, tBreak, tCont, L2.start, tDGet, sDPut, tTup, tLst, tDNewK, tRevL, rCat, rAppend, rPop, rSetL, tAndV, tOrV, tNotV, tSl, tPart, tNoPart, tM1, gTup, gCons, gNil, cxK, cxnK, List.map_cons, List.map_nil, List.length_cons, List.length_nil, List.replicate, List.cons_append, List.nil_append, List.append_nil, List.set_cons_zero, List.set_cons_succ, List.getElem?_cons_zero, List.getElem?_cons_succ, Option.some.injEq, V.ref.injEq, V.int.injEq, V.str.injEq, V.bl.injEq, V.ty.injEq, exists_eq_left', exists_eq_left, exists_and_left, List.cons.injEq, and_true, true_and, sc_ii, sc_ss, sc_bb, sc_ni, sc_in, sc_is, sc_si, sc_nn, decide_true, decide_false, reduceCtorEq, Bool.false_eq_true, if_true, if_false, ite_true, ite_false, exists_const, eq_self, false_and, and_false, or_false, false_or, exists_false, Evl.rLenS, rSum, wipe, tYes, exists_eq, exists_eq', rIxL, rIxT, rIxS, exists_and_right, gt_iff_lt, not_true_eq_false, not_false_eq_true, Bool.not_true, Bool.not_false, decide_eq_true_eq, Nat.reduceSub, Nat.reduceAdd, List.append_assoc, tChain, tDIn, tDNotIn, sDDel, tAug, ipI]
        refine ⟨.ty "ValueError", .type "ValueError", true, BT, x, _, rfl, fun u h => h, rfl, rfl, hx, T0.KT, T0.t2, true, rfl, ?_⟩
        try simp only [tSeq, tIfS, tTest, tOp, tUn, tCB, tCons, tNil, tVar, tC, rI0, rI, rU, rEq, rNe, tRet, tRetN, tAsg, gName, gSub, tBM, tBM0, tNext, tB, tNot, tAnd, tOr, tIf, tCall, tDrop, tBreak, tCont, L2.start, tDGet, sDPut, tTup, tLst, tDNewK, tRevL, rCat, rAppend, rPop, rSetL, tAndV, tOrV, tNotV, tSl, tPart, tNoPart, tM1, gTup, gCons, gNil, cxK, cxnK, List.map_cons, List.map_nil, List.length_cons, List.length_nil, List.replicate, List.cons_append, List.nil_append, List.append_nil, List.set_cons_zero, List.set_cons_succ, List.getElem?_cons_zero, List.getElem?_cons_succ, Option.some.injEq, V.ref.injEq, V.int.injEq, V.str.injEq, V.bl.injEq, V.ty.injEq, exists_eq_left', exists_eq_left, exists_and_left, List.cons.injEq, and_true, true_and, sc_ii, sc_ss, sc_bb, sc_ni, sc_in, sc_is, sc_si, sc_nn, decide_true, decide_false, reduceCtorEq, Bool.false_eq_true, if_true, if_false, ite_true, ite_false, exists_const, eq_self, false_and, and_false, or_false, false_or, exists_false, Evl.rLenS, rSum, wipe, tYes, exists_eq, exists_eq', rIxL, rIxT, rIxS, exists_and_right, gt_iff_lt, not_true_eq_false, not_false_eq_true, Bool.not_true, Bool.not_false, decide_eq_true_eq, Nat.reduceSub, Nat.reduceAdd, List.append_assoc, tChain, tDIn, tDNotIn, sDDel, tAug, ipI]
        refine ⟨by decide, fun p np => ?_⟩
        have kt : Kp [] H' (upd H' p (.tup [.ref NO, .ref BN])) := Kp.new np
        have hx2 := kt _ _ not0 hx
        refine ⟨p, [.ref NO, .ref BN], [.ref NO, .ref BN], false, BT, x, _, rfl, upd_same, .cons (.own _) (.cons (.own _) .nil), rfl, rfl, hx2, T0.KT, T0.t3, false, rfl, ?_⟩
        try simp only [tSeq, tIfS, tTest, tOp, tUn, tCB, tCons, tNil, tVar, tC, rI0, rI, rU, rEq, rNe, tRet, tRetN, tAsg, gName, gSub, tBM, tBM0, tNext, tB, tNot, tAnd, tOr, tIf, tCall, tDrop, tBreak, tCont, L2.start, tDGet, sDPut, tTup, tLst, tDNewK, tRevL, rCat, rAppend, rPop, rSetL, tAndV, tOrV, tNotV, tSl, tPart, tNoPart, tM1, gTup, gCons, gNil, cxK, cxnK, List.map_cons, List.map_nil, List.length_cons, List.length_nil, List.replicate, List.cons_append, List.nil_append, List.append_nil, List.set_cons_zero, List.set_cons_succ, List.getElem?_cons_zero, List.getElem?_cons_succ, Option.some.injEq, V.ref.injEq, V.int.injEq, V.str.injEq, V.bl.injEq, V.ty.injEq, exists_eq_left', exists_eq_left, exists_and_left, List.cons.injEq, and_true, true_and, sc_ii, sc_ss, sc_bb, sc_ni, sc_in, sc_is, sc_si, sc_nn, decide_true, decide_false, reduceCtorEq, Bool.false_eq_true, if_true, if_false, ite_true, ite_false, exists_const, eq_self, false_and, and_false, or_false, false_or, exists_false, Evl.rLenS, rSum, wipe, tYes, exists_eq, exists_eq', rIxL, rIxT, rIxS, exists_and_right, gt_iff_lt, not_true_eq_false, not_false_eq_true, Bool.not_true, Bool.not_false, decide_eq_true_eq, Nat.reduceSub, Nat.reduceAdd, List.append_assoc, tChain, tDIn, tDNotIn, sDDel, tAug, ipI]
        exact ⟨_, hx2, _, rfl, by decide, fun u nu => q1 nm ed u _ ((kb.trans kt).free0 nu) upd_same ((kb.trans kt).trans (Kp.new nu))⟩
end
end My

set_option Elab.async false
set_option linter.all false
set_option maxRecDepth 100000
set_option maxHeartbeats 4000000
namespace My
open PySem L2 NdefX StX
abbrev s_law_calls : Stmt := top 37
theorem sc_law_calls : FnScope ["_law_script", "_law_names_here", "_law_calls_here", "_law_spot", "_law_cell"] ["_law_script", "_law_names_here"] (defScope s_law_calls) := ⟨rfl, rfl, rfl, by decide +kernel, rfl, by decide +kernel, by decide +kernel⟩
abbrev s_law_all_answers : Stmt := top 38
theorem sc_law_all_answers : FnScope ["_law_table", "_law_plain", "_law_rows_here", "_law_start", "_law_calls_here"] ["_law_table", "_law_plain", "_law_rows_here", "_law_start", "_law_calls_here"] (defScope s_law_all_answers) := ⟨rfl, rfl, rfl, by decide +kernel, rfl, by decide +kernel, by decide +kernel⟩
abbrev s_law_same_rows : Stmt := top 40
theorem sc_law_same_rows : FnScope ["_law_handed", "_law_names_here", "_law_rows_here", "_law_name"] ["_law_handed", "_law_names_here", "_law_rows_here"] (defScope s_law_same_rows) := ⟨rfl, rfl, rfl, by decide +kernel, rfl, by decide +kernel, by decide +kernel⟩
abbrev s_law_bend : Stmt := top 41
theorem sc_law_bend : FnScope ["_law_told", "_law_odd"] ["_law_told", "_law_odd"] (defScope s_law_bend) := ⟨rfl, rfl, rfl, by decide +kernel, rfl, by decide +kernel, by decide +kernel⟩
abbrev s_law_less : Stmt := top 42
theorem sc_law_less : FnScope ["_law_table", "_law_chosen", "_law_names_here", "_law_rows_here", "_law_start", "_law_asked", "_law_less_here", "_law_kept", "_law_name"] ["_law_table", "_law_chosen", "_law_names_here", "_law_rows_here", "_law_start"] (defScope s_law_less) := ⟨rfl, rfl, rfl, by decide +kernel, rfl, by decide +kernel, by decide +kernel⟩
abbrev s_law_spoil : Stmt := top 39
theorem sc_law_spoil : FnScope ["_law_handed", "_law_names_here", "_law_rows_here", "_law_row"] ["_law_handed", "_law_names_here", "_law_rows_here"] (defScope s_law_spoil) := ⟨rfl, rfl, rfl, by decide +kernel, rfl, by decide +kernel, by decide +kernel⟩
theorem lcL {K : PySem.W.Frag} {te : TE} {g : TG} {tt : TT} {tb : TE} {vs : List Nat} {σ : L2.St} {H : Hp} {Q : VK} (Pa : Addr → Hp → Prop) (ht : ∀ R : VK, (∀ a H1, Pa a H1 → R (.ref a) H1) → te σ H R) (h : ∀ a H1, Pa a H1 → tLc (iList K (fun _ _ q => q (.ref a) H1)) g tt tb vs σ H1 Q) : tLc (iList K te) g tt tb vs σ H Q :=
  ht _ fun a H1 p => h a H1 p
section
variable {P : Program} {w : World} {K : PySem.W.Frag} {mg : Str → Option Value} {base : Heap}
def spCalls (K : PySem.W.Frag) : Sp := fun vs H Q _ => ∃ (a nl : Addr) (ns : List Int) (zs : List Str), vs = [.ref a, .ref nl] ∧ Scr K H a ns ∧ H nl = some (.lst (zs.map V.str)) ∧ 1 ≤ zs.length ∧ zs.length ≤ 20 ∧
  ∀ (r : Addr) (cs : List Str) (H' : Hp), H r = none → H' r = some (.lst (cs.map V.str)) → cs.length ≤ 100 → (∀ z ∈ cs, z ∈ zs) → Kp [] H H' → Q (.ref r) H'
theorem ok_law_calls {f : Addr} {fd : FuncData} (D : Df K mg "_law_calls" s_law_calls ["_law_script", "_law_names_here"] f fd) (T : BtN mg) {fg : Addr} {fdg : FuncData} (D_law_draws : Df K mg "_law_draws" s_law_draws ["_law_script", "_law_at", "_law_bounds"] fg fdg) (G_law_draws : FnOk P w K mg base CX0 2 fg fdg ["_law_script", "_law_at", "_law_bounds"] (spDraws K)) : FnOk P w K mg base CX0 3 f fd ["_law_script", "_law_names_here"] (spCalls K) := by
  refine D.F.ok sc_law_calls (fun vs H Q E h => ?_) (fun cdv A outer s H vs Q E hr h => ?_)
  · obtain ⟨_, _, _, _, rfl, _⟩ := h
    rfl
  · obtain ⟨a, nl, ns, zs, rfl, hS, hn, z1, z20, q⟩ := h
    have hu := hu_of hr
    refine ⟨_, (pss_cons (ps_setLc (i := 2) (own := [("_law_spot", 3)]) (g := (gName 3)) (tt := tYes) rfl sc_law_calls.nd rfl rfl (sw_true rfl rfl rfl (by decide +kernel)) (pi_list (pe_call G_law_draws (hr.mono (by decide)) rfl D_law_draws.g D_law_draws.F.kp D_law_draws.b .nil pass0 (pa_cons (pv 0) (pa_cons pe_int (pa_cons (pe_op op_rep (pe_lst (pa_cons (pe_callB (id := "len") (r := Evl.rLenS K) call_len_seq (by rfl) T.b_len PySem.boot_len (pa_cons (pv 1) pa_nil)) pa_nil)) pe_int) pa_nil))))) (blkOk_by (N := ["_law_script", "_law_names_here", "_law_calls_here", "_law_spot", "_law_cell"]) (sc := defScope s_law_calls) (by decide +kernel)) (fun _ _ _ _ _ => (pg_name (i := 3) sc_law_calls.nd rfl (Or.inl rfl))) (fun _ _ _ _ _ => pts_nil) (fun _ _ _ _ _ => (pe_ix (r := rIxL K) ix_list (pv 1) (pv 3) (fun _ _ => rfl))))
      (pss_one (ps_ret (pe_op op_cat (pv 2) (pe_lc (own := [("_law_cell", 4)]) (g := (gName 4)) (tt := tYes) rfl sc_law_calls.nd (pi_list (pe_slice sl_list (pv 0) (po_some pe_int) po_none)) (blkOk_by (N := ["_law_script", "_law_names_here", "_law_calls_here", "_law_spot", "_law_cell"]) (sc := defScope s_law_calls) (by decide +kernel)) (fun _ _ _ _ _ => (pg_name (i := 4) sc_law_calls.nd rfl (Or.inl rfl))) (fun _ _ _ _ _ => pts_nil) (fun _ _ _ _ _ => (pe_ix (r := rIxL K) ix_list (pv 1) (pe_op op_mod (pe_callTy (T := "int") call_int1 (by rfl) T.b_int (by decide +kernel) (pa_cons (pv 4) pa_nil)) (pe_callB (id := "len") (r := Evl.rLenS K) call_len_seq (by rfl) T.b_len PySem.boot_len (pa_cons (pv 1) pa_nil))) (fun _ _ => rfl)))))))), ?_⟩
    try simp only [tSeq, tIfS, tTest, tOp, tUn, tCB, tCons, tNil, tVar, tC, rI0, rI, rU, rEq, rNe, tRet, tRetN, tAsg, gName, gSub, tBM, tBM0, tNext, tB, tNot, tAnd, tOr, tIf, tCall, tDrop, tBreak, tCont, L2.start, tDGet, sDPut, tTup, tLst, tDNewK, tRevL, rCat, rAppend, rPop, rSetL, tAndV, tOrV, tNotV, tSl, tPart, tNoPart, tM1, gTup, gCons, gNil, cxK, cxnK, List.map_cons, List.map_nil, List.length_cons, List.length_nil, List.replicate, List.cons_append, List.nil_append, List.append_nil, List.set_cons_zero, List.set_cons_succ, List.getElem?_cons_zero, List.getElem?_cons_succ, Option.some.injEq, V.ref.injEq, V.int.injEq, V.str.injEq, V.bl.injEq, V.ty.injEq, exists_eq_left', exists_eq_left, exists_and_left, List.cons.injEq, and_true, true_and, sc_ii, sc_ss, sc_bb, sc_ni, sc_in, sc_is, sc_si, sc_nn, decide_true, decide_false, reduceCtorEq, Bool.false_eq_true, if_true, if_false, ite_true, ite_false, exists_const, eq_self, false_and, and_false, or_false, false_or, exists_false, Evl.rLenS, rSum, wipe, tYes, exists_eq, exists_eq', rIxL, rIxT, rIxS, exists_and_right, gt_iff_lt, not_true_eq_false, not_false_eq_true, Bool.not_true, Bool.not_false, decide_eq_true_eq, Nat.reduceSub, Nat.reduceAdd, List.append_assoc, tChain, tDIn, tDNotIn, sDDel, tAug, ipI]
    have zl0 : ((zs.length : Nat) : Int) ≠ 0 := by omega
    refine lcL (fun dr HA => ∃ ds : List Int, HA dr = some (.lst (ds.map V.int)) ∧ DrawOk (List.replicate 6 ((zs.length : Nat) : Int)) ds ∧ Kp [] H HA) (fun R hR => ?_) (fun dr HA hP => ?_)
    · try simp only [tSeq, tIfS, tTest, tOp, tUn, tCB, tCons, tNil, tVar, tC, rI0, rI, rU, rEq, rNe, tRet, tRetN, tAsg, gName, gSub, tBM, tBM0, tNext, tB, tNot, tAnd, tOr, tIf, tCall, tDrop, tBreak, tCont, L2.start, tDGet, sDPut, tTup, tLst, tDNewK, tRevL, rCat, rAppend, rPop, rSetL, tAndV, tOrV, tNotV, tSl, tPart, tNoPart, tM1, gTup, gCons, gNil, cxK, cxnK, List.map_cons, List.map_nil, List.length_cons, List.length_nil, List.replicate, List.cons_append, List.nil_append, List.append_nil, List.set_cons_zero, List.set_cons_succ, List.getElem?_cons_zero, List.getElem?_cons_succ, Option.some.injEq, V.ref.injEq, V.int.injEq, V.str.injEq, V.bl.injEq, V.ty.injEq, exists_eq_left', exists_eq_left, exists_and_left, List.cons.injEq, and_true, true_and, sc_ii, sc_ss, sc_bb, sc_ni, sc_in, sc_is, sc_si, sc_nn, decide_true, decide_false, reduceCtorEq, Bool.false_eq_true, if_true, if_false, ite_true, ite_false, exists_const, eq_self, false_and, and_false, or_false, false_or, exists_false, Evl.rLenS, rSum, wipe, tYes, exists_eq, exists_eq', rIxL, rIxT, rIxS, exists_and_right, gt_iff_lt, not_true_eq_false, not_false_eq_true, Bool.not_true, Bool.not_false, decide_eq_true_eq, Nat.reduceSub, Nat.reduceAdd, List.append_assoc, tChain, tDIn, tDNotIn, sDDel, tAug, ipI, rRep]
      refine ⟨_, .inl (sq_l hn), by decide, fun q1 nq1 => ⟨_, upd_same, by decide, by decide, (show 1 * 6 ≤ sizeLine by decide), fun q2 nq2 => ?_⟩⟩
      have kq : Kp [] H (upd (upd H q1 (.lst [.int ((zs.map V.str).length : Nat)])) q2 (.lst (List.replicate (Int.toNat 6) [V.int ((zs.map V.str).length : Nat)]).flatten)) := (Kp.new nq1).trans (Kp.new nq2)
      have hq2 : (upd (upd H q1 (.lst [.int ((zs.map V.str).length : Nat)])) q2 (.lst (List.replicate (Int.toNat 6) [V.int ((zs.map V.str).length : Nat)]).flatten)) q2 = some (.lst ((List.replicate 6 ((zs.length : Nat) : Int)).map V.int)) := by
        rw [upd_same, List.length_map]; rfl
      generalize (upd (upd H q1 (.lst [.int ((zs.map V.str).length : Nat)])) q2 (.lst (List.replicate (Int.toNat 6) [V.int ((zs.map V.str).length : Nat)]).flatten)) = H9 at kq hq2 ⊢
      refine ⟨a, q2, 3, ns, _, rfl, ⟨kq.ls not0 hS.1, hS.2⟩, by decide, hq2, by rw [List.length_replicate]; decide, fun b hb => by rw [(List.mem_replicate.mp hb).2]; omega, fun dr ds HA ndr hdr hds kA => hR dr HA ⟨ds, hdr, hds, kq.trans kA⟩⟩
    obtain ⟨ds, hdr, hds, k0A⟩ := hP
    have d6 : ds.length = 6 := by rw [hds.1, List.length_replicate]
    refine ⟨dr, rfl, ⟨_, sq_l hdr⟩, fun D nD => lc_list (K := K) (a := dr) (xs := ds.map V.int) (fun i H' => ∃ cs, H' D = some (.lst (cs.map V.str)) ∧ cs.length = i ∧ (∀ z ∈ cs, z ∈ zs) ∧ Kp [] HA H') ⟨[], upd_same, rfl, (fun z h => nomatch h), Kp.new nD⟩ (fun i H' _ h => by obtain ⟨_, _, _, _, k⟩ := h; exact k.ls not0 (sq_l hdr)) ?_ ?_⟩
    · rintro i x HB hx ⟨cs, hD, cl, cm, kB⟩
      obtain ⟨d, ed, rfl⟩ : ∃ d, ds[i]? = some d ∧ V.int d = x := by
        rw [List.getElem?_map] at hx
        cases e : ds[i]? with
        | none => rw [e] at hx; cases hx
        | some b => rw [e] at hx; exact ⟨b, rfl, Option.some.inj hx⟩
      have hi : i < 6 := by have := (List.getElem?_eq_some_iff.mp ed).1; omega
      obtain ⟨dd0, dd1⟩ := hds.2 i d _ ed (by rw [List.getElem?_replicate, if_pos hi])
      obtain ⟨z, zm, az⟩ := pick_of dd0 dd1
      try simp only [tSeq, tIfS, tTest, tOp, tUn, tCB, tCons, tNil, tVar, tC, rI0, rI, rU, rEq, rNe, tRet, tRetN, tAsg, gName, gSub, tBM, tBM0, tNext, tB, tNot, tAnd, tOr, tIf, tCall, tDrop, tBreak, tCont, L2.start, tDGet, sDPut, tTup, tLst, tDNewK, tRevL, rCat, rAppend, rPop, rSetL, tAndV, tOrV, tNotV, tSl, tPart, tNoPart, tM1, gTup, gCons, gNil, cxK, cxnK, List.map_cons, List.map_nil, List.length_cons, List.length_nil, List.replicate, List.cons_append, List.nil_append, List.append_nil, List.set_cons_zero, List.set_cons_succ, List.getElem?_cons_zero, List.getElem?_cons_succ, Option.some.injEq, V.ref.injEq, V.int.injEq, V.str.injEq, V.bl.injEq, V.ty.injEq, exists_eq_left', exists_eq_left, exists_and_left, List.cons.injEq, and_true, true_and, sc_ii, sc_ss, sc_bb, sc_ni, sc_in, sc_is, sc_si, sc_nn, decide_true, decide_false, reduceCtorEq, Bool.false_eq_true, if_true, if_false, ite_true, ite_false, exists_const, eq_self, false_and, and_false, or_false, false_or, exists_false, Evl.rLenS, rSum, wipe, tYes, exists_eq, exists_eq', rIxL, rIxT, rIxS, exists_and_right, gt_iff_lt, not_true_eq_false, not_false_eq_true, Bool.not_true, Bool.not_false, decide_eq_true_eq, Nat.reduceSub, Nat.reduceAdd, List.append_assoc, tChain, tDIn, tDNotIn, sDDel, tAug, ipI]
      refine ⟨_, sq_l ((k0A.trans kB) _ _ not0 hn), .str z, az, _, hD, smallL (by rw [List.length_map]; omega), cs ++ [z], by rw [upd_same, List.map_append]; rfl, by rw [List.length_append, cl]; rfl, fun y hy => ?_, kB.wr nD⟩
      rcases List.mem_append.mp hy with h | h
      · exact cm y h
      · rw [List.mem_singleton.mp h]; exact zm
    rintro HB ⟨cs, hD, cl, cm, kB⟩
    have k0B := k0A.trans kB
    refine lcL (fun sl HC => HC sl = some (.lst (cutV (ns.map V.int) (some 5) none)) ∧ Kp [] HB HC) (fun R hR => ?_) (fun sl HC hP => ?_)
    · try simp only [tSeq, tIfS, tTest, tOp, tUn, tCB, tCons, tNil, tVar, tC, rI0, rI, rU, rEq, rNe, tRet, tRetN, tAsg, gName, gSub, tBM, tBM0, tNext, tB, tNot, tAnd, tOr, tIf, tCall, tDrop, tBreak, tCont, L2.start, tDGet, sDPut, tTup, tLst, tDNewK, tRevL, rCat, rAppend, rPop, rSetL, tAndV, tOrV, tNotV, tSl, tPart, tNoPart, tM1, gTup, gCons, gNil, cxK, cxnK, List.map_cons, List.map_nil, List.length_cons, List.length_nil, List.replicate, List.cons_append, List.nil_append, List.append_nil, List.set_cons_zero, List.set_cons_succ, List.getElem?_cons_zero, List.getElem?_cons_succ, Option.some.injEq, V.ref.injEq, V.int.injEq, V.str.injEq, V.bl.injEq, V.ty.injEq, exists_eq_left', exists_eq_left, exists_and_left, List.cons.injEq, and_true, true_and, sc_ii, sc_ss, sc_bb, sc_ni, sc_in, sc_is, sc_si, sc_nn, decide_true, decide_false, reduceCtorEq, Bool.false_eq_true, if_true, if_false, ite_true, ite_false, exists_const, eq_self, false_and, and_false, or_false, false_or, exists_false, Evl.rLenS, rSum, wipe, tYes, exists_eq, exists_eq', rIxL, rIxT, rIxS, exists_and_right, gt_iff_lt, not_true_eq_false, not_false_eq_true, Bool.not_true, Bool.not_false, decide_eq_true_eq, Nat.reduceSub, Nat.reduceAdd, List.append_assoc, tChain, tDIn, tDNotIn, sDDel, tAug, ipI]
      refine ⟨a, _, rfl, k0B.ls not0 hS.1, fun sl nsl => hR sl _ ?_⟩
      exact ⟨upd_same, Kp.new nsl⟩
    obtain ⟨hsl, ksl⟩ := hP
    have k0C := k0B.trans ksl
    have cutl : (cutV (ns.map V.int) (some 5) none).length ≤ 63 := by
      have e := cut_i (f := V.int) (ts := ns) (i := 5)
      rw [show ((5 : Nat) : Int) = 5 from rfl] at e
      rw [e, List.length_map, List.length_drop]
      have := hS.2; omega
    refine ⟨sl, rfl, ⟨_, sq_l hsl⟩, fun D2 nD2 => ?_⟩
    refine lc_list (K := K) (a := sl) (xs := cutV (ns.map V.int) (some 5) none) (fun i H' => ∃ cs, H' D2 = some (.lst (cs.map V.str)) ∧ cs.length = i ∧ (∀ z ∈ cs, z ∈ zs) ∧ Kp [] HC H') ⟨[], upd_same, rfl, (fun z h => nomatch h), Kp.new nD2⟩ (fun i H' _ h => by obtain ⟨_, _, _, _, k⟩ := h; exact k.ls not0 (sq_l hsl)) ?_ ?_
    · rintro i x HE hx ⟨ce, hDe, cle, cme, kE⟩
      obtain ⟨d, rfl⟩ : ∃ d, V.int d = x := by
        have h1 : x ∈ ns.map V.int := List.mem_of_mem_drop (List.mem_of_mem_take (List.mem_of_getElem? hx))
        obtain ⟨d, _, e⟩ := List.mem_map.mp h1
        exact ⟨d, e⟩
      have hi := (List.getElem?_eq_some_iff.mp hx).1
      obtain ⟨z, zm, az⟩ := pick_of (zs := zs) (i := d % ((zs.length : Nat) : Int)) (Int.emod_nonneg _ zl0) (Int.emod_lt_of_pos _ (by omega))
      have hpE := (k0C.trans kE) _ _ not0 hn
      try simp only [tSeq, tIfS, tTest, tOp, tUn, tCB, tCons, tNil, tVar, tC, rI0, rI, rU, rEq, rNe, tRet, tRetN, tAsg, gName, gSub, tBM, tBM0, tNext, tB, tNot, tAnd, tOr, tIf, tCall, tDrop, tBreak, tCont, L2.start, tDGet, sDPut, tTup, tLst, tDNewK, tRevL, rCat, rAppend, rPop, rSetL, tAndV, tOrV, tNotV, tSl, tPart, tNoPart, tM1, gTup, gCons, gNil, cxK, cxnK, List.map_cons, List.map_nil, List.length_cons, List.length_nil, List.replicate, List.cons_append, List.nil_append, List.append_nil, List.set_cons_zero, List.set_cons_succ, List.getElem?_cons_zero, List.getElem?_cons_succ, Option.some.injEq, V.ref.injEq, V.int.injEq, V.str.injEq, V.bl.injEq, V.ty.injEq, exists_eq_left', exists_eq_left, exists_and_left, List.cons.injEq, and_true, true_and, sc_ii, sc_ss, sc_bb, sc_ni, sc_in, sc_is, sc_si, sc_nn, decide_true, decide_false, reduceCtorEq, Bool.false_eq_true, if_true, if_false, ite_true, ite_false, exists_const, eq_self, false_and, and_false, or_false, false_or, exists_false, Evl.rLenS, rSum, wipe, tYes, exists_eq, exists_eq', rIxL, rIxT, rIxS, exists_and_right, gt_iff_lt, not_true_eq_false, not_false_eq_true, Bool.not_true, Bool.not_false, decide_eq_true_eq, Nat.reduceSub, Nat.reduceAdd, List.append_assoc, tChain, tDIn, tDNotIn, sDDel, tAug, ipI]
      refine ⟨_, .inl (sq_l hpE), by rw [List.length_map]; omega, _, sq_l hpE, .str z, by rw [List.length_map]; exact az, _, hDe, smallL (by rw [List.length_map]; omega), ce ++ [z], by rw [upd_same, List.map_append]; rfl, by rw [List.length_append, cle]; rfl, fun y hy => ?_, kE.wr nD2⟩
      rcases List.mem_append.mp hy with h | h
      · exact cme y h
      · rw [List.mem_singleton.mp h]; exact zm
    rintro HE ⟨ce, hDe, cle, cme, kE⟩
    have k0E := k0C.trans kE
    have kBE := ksl.trans kE
    try simp only [tSeq, tIfS, tTest, tOp, tUn, tCB, tCons, tNil, tVar, tC, rI0, rI, rU, rEq, rNe, tRet, tRetN, tAsg, gName, gSub, tBM, tBM0, tNext, tB, tNot, tAnd, tOr, tIf, tCall, tDrop, tBreak, tCont, L2.start, tDGet, sDPut, tTup, tLst, tDNewK, tRevL, rCat, rAppend, rPop, rSetL, tAndV, tOrV, tNotV, tSl, tPart, tNoPart, tM1, gTup, gCons, gNil, cxK, cxnK, List.map_cons, List.map_nil, List.length_cons, List.length_nil, List.replicate, List.cons_append, List.nil_append, List.append_nil, List.set_cons_zero, List.set_cons_succ, List.getElem?_cons_zero, List.getElem?_cons_succ, Option.some.injEq, V.ref.injEq, V.int.injEq, V.str.injEq, V.bl.injEq, V.ty.injEq, exists_eq_left', exists_eq_left, exists_and_left, List.cons.injEq, and_true, true_and, sc_ii, sc_ss, sc_bb, sc_ni, sc_in, sc_is, sc_si, sc_nn, decide_true, decide_false, reduceCtorEq, Bool.false_eq_true, if_true, if_false, ite_true, ite_false, exists_const, eq_self, false_and, and_false, or_false, false_or, exists_false, Evl.rLenS, rSum, wipe, tYes, exists_eq, exists_eq', rIxL, rIxT, rIxS, exists_and_right, gt_iff_lt, not_true_eq_false, not_false_eq_true, Bool.not_true, Bool.not_false, decide_eq_true_eq, Nat.reduceSub, Nat.reduceAdd, List.append_assoc, tChain, tDIn, tDNotIn, sDDel, tAug, ipI]
    rw [List.length_map] at cl
    refine ⟨_, kBE _ _ not0 hD, _, hDe, small (by rw [List.length_map, List.length_map]; omega), fun p3 np3 => ?_⟩
    exact q p3 (cs ++ ce) _ (k0E.free0 np3) (by rw [upd_same, List.map_append]) (by rw [List.length_append]; omega) (fun z hz => (List.mem_append.mp hz).elim (cm z) (cme z)) (k0E.trans (Kp.new np3))
def spAllA (TC : Addr) : Sp := fun vs H Q _ => ∃ (t p d cl : Addr) (m : Nat) (start : Int) (zs cs : List Str) (c : Str → Nat → Int × Int), vs = [.ref t, .ref p, .ref d, .int start, .ref cl] ∧ TabIs TC H t zs m start c ∧ TabIs TC H p zs m 0 c ∧ RwAt H d zs m c ∧ CellB zs m 10 c ∧ H cl = some (.lst (cs.map V.str)) ∧ cs.length ≤ 1000 ∧ (∀ z ∈ cs, z ∈ zs) ∧ ∀ H', Kp [] H H' → Q (.bl true) H'
theorem ok_law_all_answers {f : Addr} {fd : FuncData} (D : Df K mg "_law_all_answers" s_law_all_answers ["_law_table", "_law_plain", "_law_rows_here", "_law_start", "_law_calls_here"] f fd) {TC : Addr} {fg : Addr} {fdg : FuncData} (D_law_answers : Df K mg "_law_answers" s_law_answers ["_law_table", "_law_rows_here", "_law_start", "_law_calls_here"] fg fdg) (G_law_answers : FnOk P w K mg base CX0 6 fg fdg ["_law_table", "_law_rows_here", "_law_start", "_law_calls_here"] (spAnswers TC)) : FnOk P w K mg base CX0 7 f fd ["_law_table", "_law_plain", "_law_rows_here", "_law_start", "_law_calls_here"] (spAllA TC) := by
  refine D.F.ok sc_law_all_answers (fun vs H Q E h => ?_) (fun cdv A outer s H vs Q E hr h => ?_)
  · obtain ⟨_, _, _, _, _, _, _, _, _, rfl, _⟩ := h
    rfl
  · obtain ⟨t, p, d, cl, m, start, zs, cs, c, rfl, hT, hP, hd, hb, hcl, cl1, cm, q⟩ := h
    refine ⟨_, (pss_cons (ps_if (PW.pt (pw_or (pt_not (pt_val (pe_call G_law_answers (hr.mono (by decide)) rfl D_law_answers.g D_law_answers.F.kp D_law_answers.b .nil pass0 (pa_cons (pv 0) (pa_cons (pv 2) (pa_cons (pv 3) (pa_cons (pv 4) pa_nil))))))) (pw_or1 (pt_not (pt_val (pe_call G_law_answers (hr.mono (by decide)) rfl D_law_answers.g D_law_answers.F.kp D_law_answers.b .nil pass0 (pa_cons (pv 1) (pa_cons (pv 2) (pa_cons pe_int (pa_cons (pv 4) pa_nil)))))))))) (pss_one (ps_ret pe_bl)) pss_nil)
      (pss_one (ps_ret (pe_and (pe_call G_law_answers (hr.mono (by decide)) rfl D_law_answers.g D_law_answers.F.kp D_law_answers.b .nil pass0 (pa_cons (pv 0) (pa_cons (pv 2) (pa_cons (pv 3) (pa_cons (pe_lst pa_nil) pa_nil))))) (pe_one (pe_call G_law_answers (hr.mono (by decide)) rfl D_law_answers.g D_law_answers.F.kp D_law_answers.b .nil pass0 (pa_cons (pv 0) (pa_cons (pv 2) (pa_cons (pv 3) (pa_cons (pv 4) pa_nil)))))))))), ?_⟩
    try simp only [tSeq, tIfS, tTest, tOp, tUn, tCB, tCons, tNil, tVar, tC, rI0, rI, rU, rEq, rNe, tRet, tRetN, tAsg, gName, gSub, tBM, tBM0, tNext, tB, tNot, tAnd, tOr, tIf, tCall, tDrop, tBreak, tCont, L2.start, tDGet, sDPut, tTup, tLst, tDNewK, tRevL, rCat, rAppend, rPop, rSetL, tAndV, tOrV, tNotV, tSl, tPart, tNoPart, tM1, gTup, gCons, gNil, cxK, cxnK, List.map_cons, List.map_nil, List.length_cons, List.length_nil, List.replicate, List.cons_append, List.nil_append, List.append_nil, List.set_cons_zero, List.set_cons_succ, List.getElem?_cons_zero, List.getElem?_cons_succ, Option.some.injEq, V.ref.injEq, V.int.injEq, V.str.injEq, V.bl.injEq, V.ty.injEq, exists_eq_left', exists_eq_left, exists_and_left, List.cons.injEq, and_true, true_and, sc_ii, sc_ss, sc_bb, sc_ni, sc_in, sc_is, sc_si, sc_nn, decide_true, decide_false, reduceCtorEq, Bool.false_eq_true, if_true, if_false, ite_true, ite_false, exists_const, eq_self, false_and, and_false, or_false, false_or, exists_false, Evl.rLenS, rSum, wipe, tYes, exists_eq, exists_eq', rIxL, rIxT, rIxS, exists_and_right, gt_iff_lt, not_true_eq_false, not_false_eq_true, Bool.not_true, Bool.not_false, decide_eq_true_eq, Nat.reduceSub, Nat.reduceAdd, List.append_assoc, tChain, tDIn, tDNotIn, sDDel, tAug, ipI]
    refine ⟨t, d, cl, m, start, zs, cs, c, rfl, hT, hd, hb, hcl, cl1, cm, fun H1 k1 => ?_⟩
    try simp only [tSeq, tIfS, tTest, tOp, tUn, tCB, tCons, tNil, tVar, tC, rI0, rI, rU, rEq, rNe, tRet, tRetN, tAsg, gName, gSub, tBM, tBM0, tNext, tB, tNot, tAnd, tOr, tIf, tCall, tDrop, tBreak, tCont, L2.start, tDGet, sDPut, tTup, tLst, tDNewK, tRevL, rCat, rAppend, rPop, rSetL, tAndV, tOrV, tNotV, tSl, tPart, tNoPart, tM1, gTup, gCons, gNil, cxK, cxnK, List.map_cons, List.map_nil, List.length_cons, List.length_nil, List.replicate, List.cons_append, List.nil_append, List.append_nil, List.set_cons_zero, List.set_cons_succ, List.getElem?_cons_zero, List.getElem?_cons_succ, Option.some.injEq, V.ref.injEq, V.int.injEq, V.str.injEq, V.bl.injEq, V.ty.injEq, exists_eq_left', exists_eq_left, exists_and_left, List.cons.injEq, and_true, true_and, sc_ii, sc_ss, sc_bb, sc_ni, sc_in, sc_is, sc_si, sc_nn, decide_true, decide_false, reduceCtorEq, Bool.false_eq_true, if_true, if_false, ite_true, ite_false, exists_const, eq_self, false_and, and_false, or_false, false_or, exists_false, Evl.rLenS, rSum, wipe, tYes, exists_eq, exists_eq', rIxL, rIxT, rIxS, exists_and_right, gt_iff_lt, not_true_eq_false, not_false_eq_true, Bool.not_true, Bool.not_false, decide_eq_true_eq, Nat.reduceSub, Nat.reduceAdd, List.append_assoc, tChain, tDIn, tDNotIn, sDDel, tAug, ipI]
    refine ⟨p, d, cl, m, 0, zs, cs, c, rfl, hP.kp k1, hd.kp k1, hb, k1 _ _ not0 hcl, cl1, cm, fun H2 k2 => ?_⟩
    have k02 := k1.trans k2
    try simp only [tSeq, tIfS, tTest, tOp, tUn, tCB, tCons, tNil, tVar, tC, rI0, rI, rU, rEq, rNe, tRet, tRetN, tAsg, gName, gSub, tBM, tBM0, tNext, tB, tNot, tAnd, tOr, tIf, tCall, tDrop, tBreak, tCont, L2.start, tDGet, sDPut, tTup, tLst, tDNewK, tRevL, rCat, rAppend, rPop, rSetL, tAndV, tOrV, tNotV, tSl, tPart, tNoPart, tM1, gTup, gCons, gNil, cxK, cxnK, List.map_cons, List.map_nil, List.length_cons, List.length_nil, List.replicate, List.cons_append, List.nil_append, List.append_nil, List.set_cons_zero, List.set_cons_succ, List.getElem?_cons_zero, List.getElem?_cons_succ, Option.some.injEq, V.ref.injEq, V.int.injEq, V.str.injEq, V.bl.injEq, V.ty.injEq, exists_eq_left', exists_eq_left, exists_and_left, List.cons.injEq, and_true, true_and, sc_ii, sc_ss, sc_bb, sc_ni, sc_in, sc_is, sc_si, sc_nn, decide_true, decide_false, reduceCtorEq, Bool.false_eq_true, if_true, if_false, ite_true, ite_false, exists_const, eq_self, false_and, and_false, or_false, false_or, exists_false, Evl.rLenS, rSum, wipe, tYes, exists_eq, exists_eq', rIxL, rIxT, rIxS, exists_and_right, gt_iff_lt, not_true_eq_false, not_false_eq_true, Bool.not_true, Bool.not_false, decide_eq_true_eq, Nat.reduceSub, Nat.reduceAdd, List.append_assoc, tChain, tDIn, tDNotIn, sDDel, tAug, ipI]
    refine ⟨by decide, fun e ne => ?_⟩
    have ke : Kp [] H2 (upd H2 e (.lst [])) := Kp.new ne
    have k03 := k02.trans ke
    refine ⟨t, d, e, m, start, zs, [], c, rfl, hT.kp k03, hd.kp k03, hb, upd_same, by decide, (fun _ h => nomatch h), fun H4 k4 => ?_⟩
    have k04 := k03.trans k4
    try simp only [tSeq, tIfS, tTest, tOp, tUn, tCB, tCons, tNil, tVar, tC, rI0, rI, rU, rEq, rNe, tRet, tRetN, tAsg, gName, gSub, tBM, tBM0, tNext, tB, tNot, tAnd, tOr, tIf, tCall, tDrop, tBreak, tCont, L2.start, tDGet, sDPut, tTup, tLst, tDNewK, tRevL, rCat, rAppend, rPop, rSetL, tAndV, tOrV, tNotV, tSl, tPart, tNoPart, tM1, gTup, gCons, gNil, cxK, cxnK, List.map_cons, List.map_nil, List.length_cons, List.length_nil, List.replicate, List.cons_append, List.nil_append, List.append_nil, List.set_cons_zero, List.set_cons_succ, List.getElem?_cons_zero, List.getElem?_cons_succ, Option.some.injEq, V.ref.injEq, V.int.injEq, V.str.injEq, V.bl.injEq, V.ty.injEq, exists_eq_left', exists_eq_left, exists_and_left, List.cons.injEq, and_true, true_and, sc_ii, sc_ss, sc_bb, sc_ni, sc_in, sc_is, sc_si, sc_nn, decide_true, decide_false, reduceCtorEq, Bool.false_eq_true, if_true, if_false, ite_true, ite_false, exists_const, eq_self, false_and, and_false, or_false, false_or, exists_false, Evl.rLenS, rSum, wipe, tYes, exists_eq, exists_eq', rIxL, rIxT, rIxS, exists_and_right, gt_iff_lt, not_true_eq_false, not_false_eq_true, Bool.not_true, Bool.not_false, decide_eq_true_eq, Nat.reduceSub, Nat.reduceAdd, List.append_assoc, tChain, tDIn, tDNotIn, sDDel, tAug, ipI]
    exact ⟨t, d, cl, m, start, zs, cs, c, rfl, hT.kp k04, hd.kp k04, hb, k04 _ _ not0 hcl, cl1, cm, fun H5 k5 => q H5 (k04.trans k5)⟩
def spBend : Sp := fun vs H Q _ => ∃ (l : Addr) (xs : List V) (z : Str), vs = [.ref l, .str z] ∧ H l = some (.lst xs) ∧ xs.length ≤ 1000 ∧ ∀ H', Kp [l] H H' → Q .non H'
theorem ok_law_bend {f : Addr} {fd : FuncData} (D : Df K mg "_law_bend" s_law_bend ["_law_told", "_law_odd"] f fd) : FnOk P w K mg base CX0 1 f fd ["_law_told", "_law_odd"] spBend := by
  refine D.F.ok sc_law_bend (fun vs H Q E h => ?_) (fun cdv A outer s H vs Q E hr h => ?_)
  · obtain ⟨_, _, _, rfl, _⟩ := h
    rfl
  · obtain ⟨l, xs, z, rfl, hl, x1, q⟩ := h
    refine ⟨_, (pss_cons (ps_expr (pe_bm0 PySem.F.plainAttrs_list PySem.F.slot_list_reverse PySem.F.type_list_reverse mt_reverse (pv 0)))
      (pss_one (ps_expr (pe_bm PySem.F.plainAttrs_list PySem.F.slot_list_append PySem.F.type_list_append mt_append (pv 0) (pa_cons (pv 1) pa_nil))))), ?_⟩
    try simp only [tSeq, tIfS, tTest, tOp, tUn, tCB, tCons, tNil, tVar, tC, rI0, rI, rU, rEq, rNe, tRet, tRetN, tAsg, gName, gSub, tBM, tBM0, tNext, tB, tNot, tAnd, tOr, tIf, tCall, tDrop, tBreak, tCont, L2.start, tDGet, sDPut, tTup, tLst, tDNewK, tRevL, rCat, rAppend, rPop, rSetL, tAndV, tOrV, tNotV, tSl, tPart, tNoPart, tM1, gTup, gCons, gNil, cxK, cxnK, List.map_cons, List.map_nil, List.length_cons, List.length_nil, List.replicate, List.cons_append, List.nil_append, List.append_nil, List.set_cons_zero, List.set_cons_succ, List.getElem?_cons_zero, List.getElem?_cons_succ, Option.some.injEq, V.ref.injEq, V.int.injEq, V.str.injEq, V.bl.injEq, V.ty.injEq, exists_eq_left', exists_eq_left, exists_and_left, List.cons.injEq, and_true, true_and, sc_ii, sc_ss, sc_bb, sc_ni, sc_in, sc_is, sc_si, sc_nn, decide_true, decide_false, reduceCtorEq, Bool.false_eq_true, if_true, if_false, ite_true, ite_false, exists_const, eq_self, false_and, and_false, or_false, false_or, exists_false, Evl.rLenS, rSum, wipe, tYes, exists_eq, exists_eq', rIxL, rIxT, rIxS, exists_and_right, gt_iff_lt, not_true_eq_false, not_false_eq_true, Bool.not_true, Bool.not_false, decide_eq_true_eq, Nat.reduceSub, Nat.reduceAdd, List.append_assoc, tChain, tDIn, tDNotIn, sDDel, tAug, ipI]
    refine ⟨.inl ⟨rfl, _, sq_l hl⟩, l, xs, rfl, rfl, hl, .inl ⟨rfl, _, sq_l upd_same⟩, _, upd_same, smallL (by rw [List.length_reverse]; omega), q _ (((Kp.refl [l] _).put (by simp)).put (by simp))⟩
theorem dpApp {K : PySem.W.Frag} {H : Hp} : ∀ {xs ys : List V} {ds es : List PyData}, DpAll K H xs ds → DpAll K H ys es → DpAll K H (xs ++ ys) (ds ++ es)
  | _, _, _, _, .nil, h => h
  | _, _, _, _, .cons a t, h => .cons a (dpApp t h)
theorem fit_int {i : Int} : Fit (.int i) := ⟨by unfold SeqAt.shaped; simp [PyData.canLay0, PyData.depth], by simp [PyData.depth]⟩
theorem fit_cell {p : Int × Int} : Fit (cellD p) := ⟨(fitL (ds := [.int p.1, .int p.2]) fun d hd => by
  rcases List.mem_cons.mp hd with rfl | hd
  · exact fit_int
  · rw [List.mem_singleton.mp hd]; exact fit_int).2, by simp [cellD, PyData.depth, PyData.depthAll]⟩
theorem only_names {rs : List (Str × PyData)} {cs : List Str} : namesOf (onlyR rs cs) = (namesOf rs).filter fun z => decide (z ∈ cs) := by
  unfold namesOf onlyR
  rw [List.filter_map]; rfl
theorem only_cell {rs : List (Str × PyData)} {cs : List Str} {z : Str} (hz : z ∈ cs) (s : Int) : cellOf (onlyR rs cs) z s = cellOf rs z s := by
  have : (onlyR rs cs).find? (fun p => decide (p.1 = z)) = rs.find? (fun p => decide (p.1 = z)) := by
    unfold onlyR
    rw [List.find?_filter]
    congr 1
    funext p
    by_cases h : p.1 = z
    · rw [h]; simp [hz]
    · simp [h]
  unfold cellOf rowOf
  rw [this]
/-- a row's data -/
theorem Cells.dp {K : PySem.W.Frag} {f : Nat → Int × Int} {H : Hp} : ∀ {k : Nat} {xs : List V}, Cells f xs k H → DpAll K H xs ((List.range k).map fun i => cellD (f i)) := fun {k xs} h => by
  induction k generalizing xs with
  | zero =>
    have : xs = [] := List.length_eq_zero_iff.mp h.1
    subst this
    exact .nil
  | succ k ih =>
    obtain ⟨p, ep, hp⟩ := h.2 k (by omega)
    have hx : xs = xs.take k ++ [.ref p] := by
      have h1 := List.take_append_drop k xs
      have h2 : xs.drop k = [.ref p] := by
        have hk : k < xs.length := by rw [h.1]; omega
        rw [List.drop_eq_getElem_cons hk, List.drop_of_length_le (by rw [h.1]; omega)]
        rw [List.getElem?_eq_getElem hk] at ep
        rw [Option.some.inj ep]
      rw [← h2, h1]
    have ht : Cells f (xs.take k) k H := ⟨by rw [List.length_take, h.1]; omega, fun i hi => by
      obtain ⟨p', e', hp'⟩ := h.2 i (by omega)
      exact ⟨p', by rw [List.getElem?_take_of_lt hi]; exact e', hp'⟩⟩
    rw [hx, List.range_succ, List.map_append]
    exact dpApp (ih ht) (.cons (.tup (sq_t hp) (.cons (.int _) (.cons (.int _) .nil))) .nil)
def spSame : Sp := fun vs H Q _ => ∃ (h nl d : Addr) (m : Nat) (zs : List Str) (c : Str → Nat → Int × Int), vs = [.ref h, .ref nl, .ref d] ∧ RwAt H h zs m c ∧ H nl = some (.lst (zs.map V.str)) ∧ zs.Nodup ∧ zs.length ≤ 20 ∧ m ≤ 100 ∧ (∀ z ∈ zs, nameS z = true) ∧ RwAt H d zs m c ∧ ∀ H', Kp [] H H' → Q (.bl true) H'
theorem ok_law_same_rows {f : Addr} {fd : FuncData} (D : Df K mg "_law_same_rows" s_law_same_rows ["_law_handed", "_law_names_here", "_law_rows_here"] f fd) (T : BtL mg) : FnOk P w K mg base CX0 1 f fd ["_law_handed", "_law_names_here", "_law_rows_here"] spSame := by
  refine D.F.ok sc_law_same_rows (fun vs H Q E h => ?_) (fun cdv A outer s H vs Q E hr h => ?_)
  · obtain ⟨_, _, _, _, _, _, rfl, _⟩ := h
    rfl
  · obtain ⟨h, nl, d, m, zs, c, rfl, hh, hn, nd, z20, m100, nm, hd, q⟩ := h
    have hu := hu_of hr
    refine ⟨_, (pss_cons (ps_if (pt_cmpR (op_neD hr.units) (pe_callTy (call_listD rfl) (by rfl) T.b_list (by decide +kernel) (pa_cons (pv 0) pa_nil)) (pv 1) (nomark _)) (pss_one (ps_ret pe_bl)) pss_nil)
      (pss_one (ps_ret (pe_cmpR (op_eqD hr.units) (pe_lc (own := [("_law_name", 3)]) (g := (gName 3)) rfl sc_law_same_rows.nd (pi_list (pv 1)) (blkOk_by (N := ["_law_handed", "_law_names_here", "_law_rows_here", "_law_name"]) (sc := defScope s_law_same_rows) (by decide +kernel)) (fun _ _ _ _ _ => (pg_name (i := 3) sc_law_same_rows.nd rfl (Or.inl rfl))) (fun _ _ _ _ _ => (pts_one (pt_cmpR (r := rNeD K) (op_neD hr.units) (pe_dget hu (pv 0) (pv 3) (fun _ _ => rfl)) (pe_dget hu (pv 2) (pv 3) (fun _ _ => rfl)) (nomark _)))) (fun _ _ _ _ _ => (pv 3))) (pe_lst pa_nil) (nomark _))))), ?_⟩
    try simp only [tSeq, tIfS, tTest, tOp, tUn, tCB, tCons, tNil, tVar, tC, rI0, rI, rU, rEq, rNe, tRet, tRetN, tAsg, gName, gSub, tBM, tBM0, tNext, tB, tNot, tAnd, tOr, tIf, tCall, tDrop, tBreak, tCont, L2.start, tDGet, sDPut, tTup, tLst, tDNewK, tRevL, rCat, rAppend, rPop, rSetL, tAndV, tOrV, tNotV, tSl, tPart, tNoPart, tM1, gTup, gCons, gNil, cxK, cxnK, List.map_cons, List.map_nil, List.length_cons, List.length_nil, List.replicate, List.cons_append, List.nil_append, List.append_nil, List.set_cons_zero, List.set_cons_succ, List.getElem?_cons_zero, List.getElem?_cons_succ, Option.some.injEq, V.ref.injEq, V.int.injEq, V.str.injEq, V.bl.injEq, V.ty.injEq, exists_eq_left', exists_eq_left, exists_and_left, List.cons.injEq, and_true, true_and, sc_ii, sc_ss, sc_bb, sc_ni, sc_in, sc_is, sc_si, sc_nn, decide_true, decide_false, reduceCtorEq, Bool.false_eq_true, if_true, if_false, ite_true, ite_false, exists_const, eq_self, false_and, and_false, or_false, false_or, exists_false, Evl.rLenS, rSum, wipe, tYes, exists_eq, exists_eq', rIxL, rIxT, rIxS, exists_and_right, gt_iff_lt, not_true_eq_false, not_false_eq_true, Bool.not_true, Bool.not_false, decide_eq_true_eq, Nat.reduceSub, Nat.reduceAdd, List.append_assoc, tChain, tDIn, tDNotIn, sDDel, tAug, ipI]
    obtain ⟨kh, eh, lh, vh⟩ := id hh
    have keys : kh.map (fun kv => kV kv.1) = zs.map V.str := by
      have := RwAt.keys (P := fun _ _ _ => True) lh fun i z e => by
        obtain ⟨l, xs, e2, _⟩ := vh i z e
        exact ⟨_, e2, True.intro⟩
      have h2 := congrArg (List.map kV) this
      rw [List.map_map, List.map_map] at h2
      exact h2
    refine ⟨kh, .inl eh, fun p np => ?_⟩
    rw [keys]
    have kp : Kp [] H (upd H p (.lst (zs.map V.str))) := Kp.new np
    have hp : (upd H p (.lst (zs.map V.str))) p = some (.lst (zs.map V.str)) := upd_same
    generalize (upd H p (.lst (zs.map V.str))) = H1 at kp hp ⊢
    have hn1 := kp _ _ not0 hn
    have sh := shaped_names nm
    refine ⟨.list (zs.map PyData.str), .list (zs.map PyData.str), .lst (sq_l hp) (dpStrs zs), .lst (sq_l hn1) (dpStrs zs), sh, sh, ?_⟩
    rw [SeqAt.eqv_refl _ (SeqAt.canLay_of_shaped sh)]
    try simp only [tSeq, tIfS, tTest, tOp, tUn, tCB, tCons, tNil, tVar, tC, rI0, rI, rU, rEq, rNe, tRet, tRetN, tAsg, gName, gSub, tBM, tBM0, tNext, tB, tNot, tAnd, tOr, tIf, tCall, tDrop, tBreak, tCont, L2.start, tDGet, sDPut, tTup, tLst, tDNewK, tRevL, rCat, rAppend, rPop, rSetL, tAndV, tOrV, tNotV, tSl, tPart, tNoPart, tM1, gTup, gCons, gNil, cxK, cxnK, List.map_cons, List.map_nil, List.length_cons, List.length_nil, List.replicate, List.cons_append, List.nil_append, List.append_nil, List.set_cons_zero, List.set_cons_succ, List.getElem?_cons_zero, List.getElem?_cons_succ, Option.some.injEq, V.ref.injEq, V.int.injEq, V.str.injEq, V.bl.injEq, V.ty.injEq, exists_eq_left', exists_eq_left, exists_and_left, List.cons.injEq, and_true, true_and, sc_ii, sc_ss, sc_bb, sc_ni, sc_in, sc_is, sc_si, sc_nn, decide_true, decide_false, reduceCtorEq, Bool.false_eq_true, if_true, if_false, ite_true, ite_false, exists_const, eq_self, false_and, and_false, or_false, false_or, exists_false, Evl.rLenS, rSum, wipe, tYes, exists_eq, exists_eq', rIxL, rIxT, rIxS, exists_and_right, gt_iff_lt, not_true_eq_false, not_false_eq_true, Bool.not_true, Bool.not_false, decide_eq_true_eq, Nat.reduceSub, Nat.reduceAdd, List.append_assoc, tChain, tDIn, tDNotIn, sDDel, tAug, ipI]
    refine ⟨.ref nl, rfl, nl, rfl, ⟨_, sq_l hn1⟩, fun D nD => lc_list (K := K) (a := nl) (xs := zs.map V.str) (fun i H' => H' D = some (.lst []) ∧ Kp [] H1 H') ⟨upd_same, Kp.new nD⟩ (fun i H' _ h => h.2.ls not0 (sq_l hn1)) ?_ ?_⟩
    · rintro i x H2 hx ⟨hD, k2⟩
      obtain ⟨z, ez, rfl⟩ : ∃ z, zs[i]? = some z ∧ V.str z = x := by
        rw [List.getElem?_map] at hx
        cases e : zs[i]? with
        | none => rw [e] at hx; cases hx
        | some z => rw [e] at hx; exact ⟨z, rfl, Option.some.inj hx⟩
      have hz := List.mem_of_getElem? ez
      have k02 := kp.trans k2
      obtain ⟨kv1, l1, xs1, h1, ev1, hl1, hc1⟩ := (hh.kp k02).get nd hz
      obtain ⟨kv2, l2, xs2, h2, ev2, hl2, hc2⟩ := (hd.kp k02).get nd hz
      have shr : SeqAt.shaped (.list ((List.range m).map fun i => cellD (c z i))) = true := (fitL fun d hd => by
        obtain ⟨i, _, rfl⟩ := List.mem_map.mp hd
        exact fit_cell).1
      try simp only [tSeq, tIfS, tTest, tOp, tUn, tCB, tCons, tNil, tVar, tC, rI0, rI, rU, rEq, rNe, tRet, tRetN, tAsg, gName, gSub, tBM, tBM0, tNext, tB, tNot, tAnd, tOr, tIf, tCall, tDrop, tBreak, tCont, L2.start, tDGet, sDPut, tTup, tLst, tDNewK, tRevL, rCat, rAppend, rPop, rSetL, tAndV, tOrV, tNotV, tSl, tPart, tNoPart, tM1, gTup, gCons, gNil, cxK, cxnK, List.map_cons, List.map_nil, List.length_cons, List.length_nil, List.replicate, List.cons_append, List.nil_append, List.append_nil, List.set_cons_zero, List.set_cons_succ, List.getElem?_cons_zero, List.getElem?_cons_succ, Option.some.injEq, V.ref.injEq, V.int.injEq, V.str.injEq, V.bl.injEq, V.ty.injEq, exists_eq_left', exists_eq_left, exists_and_left, List.cons.injEq, and_true, true_and, sc_ii, sc_ss, sc_bb, sc_ni, sc_in, sc_is, sc_si, sc_nn, decide_true, decide_false, reduceCtorEq, Bool.false_eq_true, if_true, if_false, ite_true, ite_false, exists_const, eq_self, false_and, and_false, or_false, false_or, exists_false, Evl.rLenS, rSum, wipe, tYes, exists_eq, exists_eq', rIxL, rIxT, rIxS, exists_and_right, gt_iff_lt, not_true_eq_false, not_false_eq_true, Bool.not_true, Bool.not_false, decide_eq_true_eq, Nat.reduceSub, Nat.reduceAdd, List.append_assoc, tChain, tDIn, tDNotIn, sDDel, tAug, ipI]
      refine ⟨.ref l1, .inl ⟨kv1, Sum.inr z, .inl h1, rfl, ev1.symm⟩, .ref l2, .inl ⟨kv2, Sum.inr z, .inl h2, rfl, ev2.symm⟩, _, _, .lst (sq_l hl1) hc1.dp, .lst (sq_l hl2) hc2.dp, shr, shr, ?_⟩
      rw [SeqAt.eqv_refl _ (SeqAt.canLay_of_shaped shr)]
      try simp only [tSeq, tIfS, tTest, tOp, tUn, tCB, tCons, tNil, tVar, tC, rI0, rI, rU, rEq, rNe, tRet, tRetN, tAsg, gName, gSub, tBM, tBM0, tNext, tB, tNot, tAnd, tOr, tIf, tCall, tDrop, tBreak, tCont, L2.start, tDGet, sDPut, tTup, tLst, tDNewK, tRevL, rCat, rAppend, rPop, rSetL, tAndV, tOrV, tNotV, tSl, tPart, tNoPart, tM1, gTup, gCons, gNil, cxK, cxnK, List.map_cons, List.map_nil, List.length_cons, List.length_nil, List.replicate, List.cons_append, List.nil_append, List.append_nil, List.set_cons_zero, List.set_cons_succ, List.getElem?_cons_zero, List.getElem?_cons_succ, Option.some.injEq, V.ref.injEq, V.int.injEq, V.str.injEq, V.bl.injEq, V.ty.injEq, exists_eq_left', exists_eq_left, exists_and_left, List.cons.injEq, and_true, true_and, sc_ii, sc_ss, sc_bb, sc_ni, sc_in, sc_is, sc_si, sc_nn, decide_true, decide_false, reduceCtorEq, Bool.false_eq_true, if_true, if_false, ite_true, ite_false, exists_const, eq_self, false_and, and_false, or_false, false_or, exists_false, Evl.rLenS, rSum, wipe, tYes, exists_eq, exists_eq', rIxL, rIxT, rIxS, exists_and_right, gt_iff_lt, not_true_eq_false, not_false_eq_true, Bool.not_true, Bool.not_false, decide_eq_true_eq, Nat.reduceSub, Nat.reduceAdd, List.append_assoc, tChain, tDIn, tDNotIn, sDDel, tAug, ipI]
      exact ⟨hD, k2⟩
    · rintro H2 ⟨hD, k2⟩
      refine ⟨by decide, fun p2 np2 => ?_⟩
      have k3 : Kp [] H2 (upd H2 p2 (.lst [])) := Kp.new np2
      have sh0 : SeqAt.shaped (.list []) = true := by decide +kernel
      refine ⟨.list [], .list [], .lst (sq_l (k3 _ _ not0 hD)) .nil, .lst (sq_l upd_same) .nil, sh0, sh0, ?_⟩
      rw [SeqAt.eqv_refl _ (SeqAt.canLay_of_shaped sh0)]
      exact q _ ((kp.trans k2).trans k3)
def spLess (TC : Addr) : Sp := fun vs H Q _ => ∃ (t ch nl d : Addr) (m : Nat) (start : Int) (zs cs : List Str) (c : Str → Nat → Int × Int), vs = [.ref t, .ref ch, .ref nl, .ref d, .int start] ∧ TabIs TC H t zs m start c ∧ H ch = some (.lst (cs.map V.str)) ∧ cs ≠ [] ∧ cs.length ≤ 1000 ∧ (∀ z ∈ cs, z ∈ zs) ∧ H nl = some (.lst (zs.map V.str)) ∧ RwOn H d zs m c ∧ ∀ H', Kp [] H H' → Q (.bl true) H'
theorem ok_law_less {f : Addr} {fd : FuncData} (D : Df K mg "_law_less" s_law_less ["_law_table", "_law_chosen", "_law_names_here", "_law_rows_here", "_law_start"] f fd) (T : BtL mg) {TC BT NO fO : Addr} {fdO : FuncData} (C : TbC K mg TC)
    (ME_Table_only : Meth K TC "only" fO) (bM_Table_only : Binds K fdO ["self", "names"] []) (G_Table_only : FnOk P w K mg base (L2.CX P w) 8 fO fdO ["self", "names"] (spTO TC NO BT))
    {fg : Addr} {fdg : FuncData} (D_law_tells : Df K mg "_law_tells" s_law_tells ["_law_table", "_law_names_here", "_law_rows_here", "_law_start"] fg fdg) (G_law_tells : FnOk P w K mg base CX0 6 fg fdg ["_law_table", "_law_names_here", "_law_rows_here", "_law_start"] (spTells TC)) : FnOk P w K mg base CX0 9 f fd ["_law_table", "_law_chosen", "_law_names_here", "_law_rows_here", "_law_start"] (spLess TC) := by
  refine D.F.ok sc_law_less (fun vs H Q E h => ?_) (fun cdv A outer s H vs Q E hr h => ?_)
  · obtain ⟨_, _, _, _, _, _, _, _, _, rfl, _⟩ := h
    rfl
  · obtain ⟨t, ch, nl, d, m, start, zs, cs, c, rfl, ⟨rs, hT, en, hc⟩, hch, cne, cl1, cm, hn, hd, q⟩ := h
    have hu := hu_of hr
    refine ⟨_, (pss_cons (ps_set (i := 5) sc_law_less.nd rfl (Or.inl rfl) (pe_callTy call_list_of (by rfl) T.b_list (by decide +kernel) (pa_cons (pv 1) pa_nil)))
      (pss_cons (ps_set (i := 6) sc_law_less.nd rfl (Or.inl rfl) (pe_meth (pv 0) C.cl ME_Table_only G_Table_only (hr.mono (by decide)) bM_Table_only .nil passL (pa_cons (pv 5) pa_nil)))
      (pss_cons (ps_setLc (i := 7) (own := [("_law_name", 8)]) (g := (gName 8)) rfl sc_law_less.nd rfl rfl (sw_true rfl rfl rfl (by decide +kernel)) (pi_list (pv 2)) (blkOk_by (N := ["_law_table", "_law_chosen", "_law_names_here", "_law_rows_here", "_law_start", "_law_asked", "_law_less_here", "_law_kept", "_law_name"]) (sc := defScope s_law_less) (by decide +kernel)) (fun _ _ _ _ _ => (pg_name (i := 8) sc_law_less.nd rfl (Or.inl rfl))) (fun _ _ _ _ _ => (pts_one (pt_cmpR (r := rIn K false) op_in_seq (pv 8) (pv 1) (by rfl)))) (fun _ _ _ _ _ => (pv 8)))
      (pss_one (ps_ret (pe_and (pe_cmpR (op_eqD hr.units) (pv 5) (pv 1) (nomark _)) (pe_one (pe_call G_law_tells (hr.mono (by decide)) rfl D_law_tells.g D_law_tells.F.kp D_law_tells.b .nil pass0 (pa_cons (pv 6) (pa_cons (pv 7) (pa_cons (pv 3) (pa_cons (pv 4) pa_nil)))))))))))), ?_⟩
    try simp only [tSeq, tIfS, tTest, tOp, tUn, tCB, tCons, tNil, tVar, tC, rI0, rI, rU, rEq, rNe, tRet, tRetN, tAsg, gName, gSub, tBM, tBM0, tNext, tB, tNot, tAnd, tOr, tIf, tCall, tDrop, tBreak, tCont, L2.start, tDGet, sDPut, tTup, tLst, tDNewK, tRevL, rCat, rAppend, rPop, rSetL, tAndV, tOrV, tNotV, tSl, tPart, tNoPart, tM1, gTup, gCons, gNil, cxK, cxnK, List.map_cons, List.map_nil, List.length_cons, List.length_nil, List.replicate, List.cons_append, List.nil_append, List.append_nil, List.set_cons_zero, List.set_cons_succ, List.getElem?_cons_zero, List.getElem?_cons_succ, Option.some.injEq, V.ref.injEq, V.int.injEq, V.str.injEq, V.bl.injEq, V.ty.injEq, exists_eq_left', exists_eq_left, exists_and_left, List.cons.injEq, and_true, true_and, sc_ii, sc_ss, sc_bb, sc_ni, sc_in, sc_is, sc_si, sc_nn, decide_true, decide_false, reduceCtorEq, Bool.false_eq_true, if_true, if_false, ite_true, ite_false, exists_const, eq_self, false_and, and_false, or_false, false_or, exists_false, Evl.rLenS, rSum, wipe, tYes, exists_eq, exists_eq', rIxL, rIxT, rIxS, exists_and_right, gt_iff_lt, not_true_eq_false, not_false_eq_true, Bool.not_true, Bool.not_false, decide_eq_true_eq, Nat.reduceSub, Nat.reduceAdd, List.append_assoc, tChain, tDIn, tDNotIn, sDDel, tAug, ipI, tMeth]
    obtain ⟨dx, dd, ho⟩ := hT.head
    have bT := hT.bnd
    have nmz : ∀ z ∈ zs, nameS z = true := by rw [← en]; exact bT.2.2.1
    have ndz : zs.Nodup := by rw [← en]; exact bT.2.2.2.2.2.2.2
    refine ⟨_, .inl (sq_l hch), fun l nl_ => ?_⟩
    have kl : Kp [] H (upd H l (.lst (cs.map V.str))) := Kp.new nl_
    have hl : (upd H l (.lst (cs.map V.str))) l = some (.lst (cs.map V.str)) := upd_same
    generalize (upd H l (.lst (cs.map V.str))) = H1 at kl hl ⊢
    have mem : ∀ {z : Str}, z ∈ cs → z ∈ rs.map (·.1) := fun {z} hz => by rw [show rs.map (·.1) = zs from en]; exact cm z hz
    refine ⟨dx, _, kl _ _ not0 ho, rfl, t, l, cs, m, start, rs, rfl, hT.kp kl, hl, cl1, fun z hz => name8 (nmz z (cm z hz)), fun _ _ r H2 nr hr2 k2 => ?_, fun e => absurd e cne, fun i z ez hz _ => ?_⟩
    · have k02 := kl.trans k2
      have hn2 := k02 _ _ not0 hn
      have hch2 := k02 _ _ not0 hch
      refine ⟨.ref nl, rfl, nl, rfl, ⟨_, sq_l hn2⟩, fun D nD => lc_list (K := K) (a := nl) (xs := zs.map V.str) (fun i H' => H' D = some (.lst (((zs.take i).filter fun z => decide (z ∈ cs)).map V.str)) ∧ Kp [] H2 H') ⟨upd_same, Kp.new nD⟩ (fun i H' _ h => h.2.ls not0 (sq_l hn2)) ?_ ?_⟩
      · rintro i x H4 hx ⟨hD4, k4⟩
        obtain ⟨z, ez, rfl⟩ : ∃ z, zs[i]? = some z ∧ V.str z = x := by
          rw [List.getElem?_map] at hx
          cases e : zs[i]? with
          | none => rw [e] at hx; cases hx
          | some z => rw [e] at hx; exact ⟨z, rfl, Option.some.inj hx⟩
        have hch4 := k4 _ _ not0 hch2
        have ml := List.length_filter_le (fun z => decide (z ∈ cs)) (zs.take i)
        rw [List.length_take] at ml
        have z6 : zs.length ≤ 6 := by
          have := bT.2.1
          rw [← show namesOf rs = zs from en]
          unfold namesOf; rw [List.length_map]; exact this
        try simp only [tSeq, tIfS, tTest, tOp, tUn, tCB, tCons, tNil, tVar, tC, rI0, rI, rU, rEq, rNe, tRet, tRetN, tAsg, gName, gSub, tBM, tBM0, tNext, tB, tNot, tAnd, tOr, tIf, tCall, tDrop, tBreak, tCont, L2.start, tDGet, sDPut, tTup, tLst, tDNewK, tRevL, rCat, rAppend, rPop, rSetL, tAndV, tOrV, tNotV, tSl, tPart, tNoPart, tM1, gTup, gCons, gNil, cxK, cxnK, List.map_cons, List.map_nil, List.length_cons, List.length_nil, List.replicate, List.cons_append, List.nil_append, List.append_nil, List.set_cons_zero, List.set_cons_succ, List.getElem?_cons_zero, List.getElem?_cons_succ, Option.some.injEq, V.ref.injEq, V.int.injEq, V.str.injEq, V.bl.injEq, V.ty.injEq, exists_eq_left', exists_eq_left, exists_and_left, List.cons.injEq, and_true, true_and, sc_ii, sc_ss, sc_bb, sc_ni, sc_in, sc_is, sc_si, sc_nn, decide_true, decide_false, reduceCtorEq, Bool.false_eq_true, if_true, if_false, ite_true, ite_false, exists_const, eq_self, false_and, and_false, or_false, false_or, exists_false, Evl.rLenS, rSum, wipe, tYes, exists_eq, exists_eq', rIxL, rIxT, rIxS, exists_and_right, gt_iff_lt, not_true_eq_false, not_false_eq_true, Bool.not_true, Bool.not_false, decide_eq_true_eq, Nat.reduceSub, Nat.reduceAdd, List.append_assoc, tChain, tDIn, tDNotIn, sDDel, tAug, ipI]
        refine ⟨ch, _, rfl, .inl (sq_l hch4), rfl, flat_strs, ?_⟩
        simp only [Bool.false_eq_true, if_false]
        rw [inV_str]
        by_cases hm : z ∈ cs
        · rw [decide_eq_true hm]
          refine ⟨true, rfl, ?_⟩
          rw [if_pos rfl]
          refine ⟨_, hD4, smallL (by rw [List.length_map]; omega), ?_, k4.wr nD⟩
          rw [upd_same, take_snoc ez, List.filter_append, List.map_append]
          simp [hm]
        · rw [decide_eq_false hm]
          refine ⟨false, rfl, ?_⟩
          rw [if_neg Bool.false_ne_true]
          refine ⟨?_, k4⟩
          rw [take_snoc ez, List.filter_append, hD4]
          simp [hm]
      · rintro H4 ⟨hD4, k4⟩
        rw [List.length_map, List.take_length] at hD4
        have sh := shaped_names fun z hz => nmz z (cm z hz)
        have k14 := k2.trans k4
        refine ⟨.list (cs.map PyData.str), .list (cs.map PyData.str), .lst (sq_l (k14 _ _ not0 hl)) (dpStrs cs), .lst (sq_l (k4 _ _ not0 hch2)) (dpStrs cs), sh, sh, ?_⟩
        rw [SeqAt.eqv_refl _ (SeqAt.canLay_of_shaped sh)]
        try simp only [tSeq, tIfS, tTest, tOp, tUn, tCB, tCons, tNil, tVar, tC, rI0, rI, rU, rEq, rNe, tRet, tRetN, tAsg, gName, gSub, tBM, tBM0, tNext, tB, tNot, tAnd, tOr, tIf, tCall, tDrop, tBreak, tCont, L2.start, tDGet, sDPut, tTup, tLst, tDNewK, tRevL, rCat, rAppend, rPop, rSetL, tAndV, tOrV, tNotV, tSl, tPart, tNoPart, tM1, gTup, gCons, gNil, cxK, cxnK, List.map_cons, List.map_nil, List.length_cons, List.length_nil, List.replicate, List.cons_append, List.nil_append, List.append_nil, List.set_cons_zero, List.set_cons_succ, List.getElem?_cons_zero, List.getElem?_cons_succ, Option.some.injEq, V.ref.injEq, V.int.injEq, V.str.injEq, V.bl.injEq, V.ty.injEq, exists_eq_left', exists_eq_left, exists_and_left, List.cons.injEq, and_true, true_and, sc_ii, sc_ss, sc_bb, sc_ni, sc_in, sc_is, sc_si, sc_nn, decide_true, decide_false, reduceCtorEq, Bool.false_eq_true, if_true, if_false, ite_true, ite_false, exists_const, eq_self, false_and, and_false, or_false, false_or, exists_false, Evl.rLenS, rSum, wipe, tYes, exists_eq, exists_eq', rIxL, rIxT, rIxS, exists_and_right, gt_iff_lt, not_true_eq_false, not_false_eq_true, Bool.not_true, Bool.not_false, decide_eq_true_eq, Nat.reduceSub, Nat.reduceAdd, List.append_assoc, tChain, tDIn, tDNotIn, sDDel, tAug, ipI]
        have sub : ∀ z ∈ zs.filter (fun z => decide (z ∈ cs)), z ∈ zs := fun z h => (List.mem_filter.mp h).1
        refine ⟨r, D, d, m, start, zs.filter fun z => decide (z ∈ cs), c, rfl, ⟨_, hr2.kp k4, by rw [only_names, show namesOf rs = zs from en], fun z hz s hs => ?_⟩, hD4, (hd.kp (kl.trans k14)).sub sub, fun H5 k5 => q H5 ((kl.trans k14).trans k5)⟩
        rw [only_cell (of_decide_eq_true (List.mem_filter.mp hz).2)]
        exact hc z (sub z hz) s hs
    · have hz' := cm z (List.mem_of_getElem? ez)
      have : (nameS z && decide (z ∈ rs.map (·.1))) = false := hz
      rw [nmz z hz', decide_eq_true (mem (List.mem_of_getElem? ez))] at this
      cases this
end
end My

set_option Elab.async false
set_option linter.all false
set_option maxRecDepth 100000
set_option maxHeartbeats 4000000
namespace My
open PySem L2 NdefX StX
abbrev s_law_refuses : Stmt := top 36
theorem sc_law_refuses : FnScope ["_law_table", "_law_calls_here", "_law_chosen", "_law_size", "_law_far", "_law_nine", "_law_spot", "_law_mixed_here", "_law_state"] ["_law_table", "_law_calls_here", "_law_chosen", "_law_size", "_law_far", "_law_nine"] (defScope s_law_refuses) := ⟨rfl, rfl, rfl, by decide +kernel, rfl, by decide +kernel, by decide +kernel⟩
theorem forLst {K : PySem.W.Frag} {ta : TA} {g : TG} {tb : TS} {D : Ends} {σ : L2.St} {H : Hp} (Pa : List V → Hp → Prop) (hta : ∀ R : List V → Hp → Prop, (∀ vs H1, Pa vs H1 → R vs H1) → ta σ H R) (few : ∀ vs H1, Pa vs H1 → vs.length ≤ 1000)
    (loop : ∀ vs H1 p, Pa vs H1 → H1 p = none → tFor (iList K (fun _ H Q => Q (.ref p) H)) g tb D σ (upd H1 p (.lst vs))) : tFor (iList K (tLst ta)) g tb D σ H := by
  unfold tFor iList tLst
  refine hta _ fun vs H1 h => ⟨by have := smallL (n := 1000) (by decide); have := few vs H1 h; omega, fun p np => ?_⟩
  exact loop vs H1 p h np
theorem ixN_m1 {n : Nat} (h : 1 ≤ n) : ixN n (-1) = some (n - 1) := by
  unfold ixN
  rw [if_neg (by decide), if_pos (by omega)]
  congr 1
  omega
structure BtRf (mg : Str → Option Value) : Prop where
  b_len : mg "len" = none
  b_int : mg "int" = none
section
variable {P : Program} {w : World} {K : PySem.W.Frag} {mg : Str → Option Value} {base : Heap}
def spSpoil : Sp := fun vs H Q _ => ∃ (h nl d l0 : Addr) (m : Nat) (z0 : Str) (zs : List Str) (c : Str → Nat → Int × Int) (kh : List (Key × V)) (us : List V), vs = [.ref h, .ref nl, .ref d] ∧ H h = some (.dK kh) ∧ valV kh (Sum.inr z0) = some (.ref l0) ∧ H l0 = some (.lst us) ∧ nl ≠ l0 ∧ 1 ≤ us.length ∧ us.length ≤ 1000 ∧
  (∀ z ∈ zs, (valV kh (Sum.inr z)).isSome = true) ∧ H nl = some (.lst (zs.map V.str)) ∧ zs.head? = some z0 ∧ 1 ≤ m ∧ RwOn H d zs m c ∧ zs.Nodup ∧ ∀ H', Kp [h, l0] H H' → Q .non H'
theorem ok_law_spoil {f : Addr} {fd : FuncData} (D : Df K mg "_law_spoil" s_law_spoil ["_law_handed", "_law_names_here", "_law_rows_here"] f fd) : FnOk P w K mg base CX0 1 f fd ["_law_handed", "_law_names_here", "_law_rows_here"] spSpoil := by
  refine D.F.ok sc_law_spoil (fun vs H Q E h => ?_) (fun cdv A outer s H vs Q E hr h => ?_)
  · obtain ⟨_, _, _, _, _, _, _, _, _, _, rfl, _⟩ := h
    rfl
  · obtain ⟨h, nl, d, l0, m, z0, zs, c, kh, us, rfl, hh, vl0, hl0, nl0, u1, u1000, allz, hn, hz0, m1, hd, nd, q⟩ := h
    have hu := hu_of hr
    refine ⟨_, (pss_cons (ps_set (i := 3) sc_law_spoil.nd rfl (Or.inl rfl) (pe_dget hu (pv 0) (pe_ix (r := rIxL K) ix_list (pv 1) pe_int (fun _ _ => rfl)) (fun _ _ => rfl)))
      (pss_cons (ps_asg (pe_tup (pa_cons (pe_op op_sub pe_int (pe_ix (r := rIxT K) ix_tup (pe_ix (r := rIxL K) ix_list (pe_dget hu (pv 2) (pe_ix (r := rIxL K) ix_list (pv 1) pe_int (fun _ _ => rfl)) (fun _ _ => rfl)) pe_int (fun _ _ => rfl)) pe_int (fun _ _ => rfl))) (pa_cons pe_int pa_nil))) (pg_sub (pv 3) pe_int set_list))
      (pss_cons (ps_expr (pe_bm PySem.F.plainAttrs_list PySem.F.slot_list_append PySem.F.type_list_append mt_append (pv 3) (pa_cons (pe_tup (pa_cons pe_int (pa_cons pe_int pa_nil))) pa_nil)))
      (pss_one (ps_expr (pe_dpop1 (pv 0) (pe_ix (r := rIxL K) ix_list (pv 1) (pe_un un_neg pe_int) (fun _ _ => rfl)) ⟨by rfl, by rfl, by rfl, by rfl⟩)))))), ?_⟩
    try simp only [tSeq, tIfS, tTest, tOp, tUn, tCB, tCons, tNil, tVar, tC, rI0, rI, rU, rEq, rNe, tRet, tRetN, tAsg, gName, gSub, tBM, tBM0, tNext, tB, tNot, tAnd, tOr, tIf, tCall, tDrop, tBreak, tCont, L2.start, tDGet, sDPut, tTup, tLst, tDNewK, tRevL, rCat, rAppend, rPop, rSetL, tAndV, tOrV, tNotV, tSl, tPart, tNoPart, tM1, gTup, gCons, gNil, cxK, cxnK, List.map_cons, List.map_nil, List.length_cons, List.length_nil, List.replicate, List.cons_append, List.nil_append, List.append_nil, List.set_cons_zero, List.set_cons_succ, List.getElem?_cons_zero, List.getElem?_cons_succ, Option.some.injEq, V.ref.injEq, V.int.injEq, V.str.injEq, V.bl.injEq, V.ty.injEq, exists_eq_left', exists_eq_left, exists_and_left, List.cons.injEq, and_true, true_and, sc_ii, sc_ss, sc_bb, sc_ni, sc_in, sc_is, sc_si, sc_nn, decide_true, decide_false, reduceCtorEq, Bool.false_eq_true, if_true, if_false, ite_true, ite_false, exists_const, eq_self, false_and, and_false, or_false, false_or, exists_false, Evl.rLenS, rSum, wipe, tYes, exists_eq, exists_eq', rIxL, rIxT, rIxS, exists_and_right, gt_iff_lt, not_true_eq_false, not_false_eq_true, Bool.not_true, Bool.not_false, decide_eq_true_eq, Nat.reduceSub, Nat.reduceAdd, List.append_assoc, tChain, tDIn, tDNotIn, sDDel, tAug, ipI, tDPop1]
    have e0 : zs[0]? = some z0 := by rw [← List.head?_eq_getElem?]; exact hz0
    have a0 : atI (zs.map V.str) 0 = some (.str z0) := atI_of (by decide) (by rw [List.getElem?_map]; exact congrArg (Option.map V.str) e0)
    have zl : 1 ≤ zs.length := by
      have := (List.getElem?_eq_some_iff.mp e0).1
      omega
    obtain ⟨kd, ld, xd, hkd, evd, hld, hcd⟩ := hd.get nd (List.mem_of_getElem? e0)
    obtain ⟨pd, epd, hpd⟩ := hcd.2 0 (by omega)
    refine ⟨_, sq_l hn, _, a0, .ref l0, .inl ⟨kh, Sum.inr z0, .inl hh, rfl, vl0.symm⟩, _, sq_l hn, _, a0, .ref ld, .inl ⟨kd, Sum.inr z0, .inl hkd, rfl, evd.symm⟩, ld, rfl, xd, sq_l hld, .ref pd, atI_of (by decide) epd, pd, rfl, _, sq_t hpd, _, rfl, _, rfl, by decide, fun p np => ?_⟩
    have kp : Kp [] H (upd H p (.tup [.int (9 - (c z0 0).1), .int 0])) := Kp.new np
    refine ⟨l0, rfl, us, kp _ _ not0 hl0, 0, ixN_of (by decide) (by omega), ?_⟩
    have hl0' : h ≠ l0 := fun z => by rw [z, hl0] at hh; cases hh
    have k1 : Kp [l0] H (upd (upd H p (.tup [.int (9 - (c z0 0).1), .int 0])) l0 (.lst (us.set 0 (.ref p)))) := kp.of0.put List.mem_cons_self
    have hs1 : (upd (upd H p (.tup [.int (9 - (c z0 0).1), .int 0])) l0 (.lst (us.set 0 (.ref p)))) l0 = some (.lst (us.set 0 (.ref p))) := upd_same
    generalize (upd (upd H p (.tup [.int (9 - (c z0 0).1), .int 0])) l0 (.lst (us.set 0 (.ref p)))) = H1 at k1 hs1 ⊢
    refine ⟨.inl ⟨rfl, _, sq_l hs1⟩, by decide, fun p2 np2 => ?_⟩
    have k2 : Kp [l0] H (upd H1 p2 (.tup [.int 0, .int 0])) := k1.trans (Kp.new np2)
    refine ⟨l0, rfl, us.set 0 (.ref p), by rw [upd_ne (ne_of_none hs1 np2)]; exact hs1, by rw [List.length_set]; exact smallL (by omega), ?_⟩
    have k3 := k2.put (p := l0) (o := .lst (us.set 0 (.ref p) ++ [.ref p2])) List.mem_cons_self
    generalize (upd (upd H1 p2 (.tup [.int 0, .int 0])) l0 (.lst (us.set 0 (.ref p) ++ [.ref p2]))) = H3 at k3 ⊢
    have hh3 := k3 _ _ (not1 hl0') hh
    have hn3 := k3 _ _ (not1 nl0) hn
    have ezl : zs[zs.length - 1]? = some zs[zs.length - 1] := List.getElem?_eq_getElem (by omega)
    have am1 : atI (zs.map V.str) (-1) = some (.str zs[zs.length - 1]) := by
      unfold atI
      rw [List.length_map, ixN_m1 zl]
      show (zs.map V.str)[zs.length - 1]? = _
      rw [List.getElem?_map, ezl]; rfl
    have vl := allz _ (List.mem_of_getElem? ezl)
    obtain ⟨u, eu⟩ := Option.isSome_iff_exists.mp vl
    exact ⟨.inl ⟨kh, .inl hh3⟩, _, sq_l hn3, _, am1, kh, hh3, Sum.inr _, rfl, ⟨u, eu⟩, q _ ((k3.mono fun x hx => by simp at hx; simp [hx]).put (by simp))⟩
def spRefs (TC : Addr) : Sp := fun vs H Q _ => ∃ (t cl ch ni : Addr) (m : Nat) (start far : Int) (zs cs ks ns : List Str) (n7 n8 : Str) (c : Str → Nat → Int × Int), vs = [.ref t, .ref cl, .ref ch, .int (m : Nat), .int far, .ref ni] ∧ TabIs TC H t zs m start c ∧ H cl = some (.lst (cs.map V.str)) ∧ cs.length ≤ 100 ∧ (∀ z ∈ cs, z ∈ zs) ∧
  H ch = some (.lst (ks.map V.str)) ∧ ks ≠ [] ∧ ks.length ≤ 6 ∧ (∀ z ∈ ks, z ∈ zs) ∧ 0 ≤ far ∧ far ≤ 1000000000 ∧ H ni = some (.lst (ns.map V.str)) ∧ ns[7]? = some n7 ∧ ns[8]? = some n8 ∧ n7 ∉ zs ∧ n8 ∉ zs ∧ nameS n7 = true ∧ nameS n8 = true ∧ ∀ H', Kp [] H H' → Q (.bl true) H'
theorem ok_law_refuses {f : Addr} {fd : FuncData} (D : Df K mg "_law_refuses" s_law_refuses ["_law_table", "_law_calls_here", "_law_chosen", "_law_size", "_law_far", "_law_nine"] f fd) {TC : Addr} (T : BtRf mg)
    {fu : Addr} {fdu : FuncData} (D_law_unknown : Df K mg "_law_unknown" s_law_unknown ["_law_table", "_law_way", "_law_calls_here", "_law_state", "_law_odd"] fu fdu) (G_law_unknown : FnOk P w K mg base CX0 9 fu fdu ["_law_table", "_law_way", "_law_calls_here", "_law_state", "_law_odd"] (spUnk TC))
    {fb : Addr} {fdb : FuncData} (D_law_bad_state : Df K mg "_law_bad_state" s_law_bad_state ["_law_table", "_law_name", "_law_state"] fb fdb) (G_law_bad_state : FnOk P w K mg base CX0 5 fb fdb ["_law_table", "_law_name", "_law_state"] (spBst TC))
    {fn : Addr} {fdn : FuncData} (D_law_none_named : Df K mg "_law_none_named" s_law_none_named ["_law_table"] fn fdn) (G_law_none_named : FnOk P w K mg base CX0 9 fn fdn ["_law_table"] (spNon TC)) : FnOk P w K mg base CX0 10 f fd ["_law_table", "_law_calls_here", "_law_chosen", "_law_size", "_law_far", "_law_nine"] (spRefs TC) := by
  refine D.F.ok sc_law_refuses (fun vs H Q E h => ?_) (fun cdv A outer s H vs Q E hr h => ?_)
  · obtain ⟨_, _, _, _, _, _, _, _, _, _, _, _, _, _, rfl, _⟩ := h
    rfl
  · obtain ⟨t, cl, ch, ni, m, start, far, zs, cs, ks, ns, n7, n8, c, rfl, hT, hcl, cl1, cm, hch, kne, kl, km, f0, f9, hni, e7, e8, o7, o8, nm7, nm8, q⟩ := h
    have hu := hu_of hr
    refine ⟨_, (pss_cons (ps_set (i := 6) sc_law_refuses.nd rfl (Or.inl rfl) (pe_op op_mod (pe_callTy (T := "int") call_int1 (by rfl) T.b_int (by decide +kernel) (pa_cons (pv 4) pa_nil)) (pe_op op_add (pe_callB (id := "len") (r := Evl.rLenS K) call_len_seq (by rfl) T.b_len PySem.boot_len (pa_cons (pv 1) pa_nil)) pe_int)))
      (pss_cons (ps_set (i := 7) sc_law_refuses.nd rfl (Or.inl rfl) (pe_op op_cat (pe_op op_cat (pe_op op_cat (pe_slice sl_list (pv 1) po_none (po_some (pv 6))) (pe_lst (pa_cons (pe_ix (r := rIxL K) ix_list (pv 5) pe_int (fun _ _ => rfl)) pa_nil))) (pe_slice sl_list (pv 1) (po_some (pv 6)) po_none)) (pe_lst (pa_cons (pe_ix (r := rIxL K) ix_list (pv 5) pe_int (fun _ _ => rfl)) pa_nil))))
      (pss_cons (ps_for PassesOwn.never rfl (pi_list (pe_lst (pa_cons pe_int (pa_cons (pv 3) (pa_cons (pe_op op_add (pv 3) (pv 4)) (pa_cons (pe_op op_sub (pe_un un_neg pe_int) (pv 4)) pa_nil)))))) (pg_name (i := 8) sc_law_refuses.nd rfl (Or.inl rfl)) (pss_one (ps_if (pt_not (pt_val (pe_call G_law_unknown (hr.mono (by decide)) rfl D_law_unknown.g D_law_unknown.F.kp D_law_unknown.b .nil pass0 (pa_cons (pv 0) (pa_cons pe_int (pa_cons (pe_lst pa_nil) (pa_cons (pv 8) (pa_cons (pe_ix (r := rIxL K) ix_list (pv 5) pe_int (fun _ _ => rfl)) pa_nil)))))))) (pss_one (ps_ret pe_bl)) pss_nil)))
      (pss_cons (ps_if (PW.pt (pw_or (pt_not (pt_val (pe_call G_law_unknown (hr.mono (by decide)) rfl D_law_unknown.g D_law_unknown.F.kp D_law_unknown.b .nil pass0 (pa_cons (pv 0) (pa_cons pe_int (pa_cons (pv 7) (pa_cons pe_int (pa_cons (pe_ix (r := rIxL K) ix_list (pv 5) pe_int (fun _ _ => rfl)) pa_nil)))))))) (pw_or1 (pt_not (pt_val (pe_call G_law_unknown (hr.mono (by decide)) rfl D_law_unknown.g D_law_unknown.F.kp D_law_unknown.b .nil pass0 (pa_cons (pv 0) (pa_cons pe_int (pa_cons (pe_op op_cat (pv 2) (pe_lst (pa_cons (pe_ix (r := rIxL K) ix_list (pv 5) pe_int (fun _ _ => rfl)) pa_nil))) (pa_cons pe_int (pa_cons (pe_ix (r := rIxL K) ix_list (pv 5) pe_int (fun _ _ => rfl)) pa_nil))))))))))) (pss_one (ps_ret pe_bl)) pss_nil)
      (pss_cons (ps_if (PW.pt (pw_or (pt_not (pt_val (pe_call G_law_unknown (hr.mono (by decide)) rfl D_law_unknown.g D_law_unknown.F.kp D_law_unknown.b .nil pass0 (pa_cons (pv 0) (pa_cons pe_int (pa_cons (pe_op op_cat (pe_lst (pa_cons (pe_ix (r := rIxL K) ix_list (pv 5) pe_int (fun _ _ => rfl)) pa_nil)) (pv 2)) (pa_cons pe_int (pa_cons (pe_ix (r := rIxL K) ix_list (pv 5) pe_int (fun _ _ => rfl)) pa_nil)))))))) (pw_or1 (pt_not (pt_val (pe_call G_law_unknown (hr.mono (by decide)) rfl D_law_unknown.g D_law_unknown.F.kp D_law_unknown.b .nil pass0 (pa_cons (pv 0) (pa_cons pe_int (pa_cons (pe_lst (pa_cons (pe_ix (r := rIxL K) ix_list (pv 5) pe_int (fun _ _ => rfl)) pa_nil)) (pa_cons pe_int (pa_cons (pe_ix (r := rIxL K) ix_list (pv 5) pe_int (fun _ _ => rfl)) pa_nil))))))))))) (pss_one (ps_ret pe_bl)) pss_nil)
      (pss_cons (ps_for PassesOwn.never rfl (pi_list (pe_lst (pa_cons (pv 3) (pa_cons (pe_un un_neg pe_int) (pa_cons (pe_op op_add (pv 3) (pv 4)) (pa_cons (pe_op op_sub (pe_un un_neg pe_int) (pv 4)) pa_nil)))))) (pg_name (i := 8) sc_law_refuses.nd rfl (Or.inl rfl)) (pss_one (ps_if (pt_not (pt_val (pe_call G_law_bad_state (hr.mono (by decide)) rfl D_law_bad_state.g D_law_bad_state.F.kp D_law_bad_state.b .nil pass0 (pa_cons (pv 0) (pa_cons (pe_ix (r := rIxL K) ix_list (pv 2) pe_int (fun _ _ => rfl)) (pa_cons (pv 8) pa_nil)))))) (pss_one (ps_ret pe_bl)) pss_nil)))
      (pss_one (ps_ret (pe_call G_law_none_named (hr.mono (by decide)) rfl D_law_none_named.g D_law_none_named.F.kp D_law_none_named.b .nil pass0 (pa_cons (pv 0) pa_nil)))))))))), ?_⟩
    try simp only [tSeq, tIfS, tTest, tOp, tUn, tCB, tCons, tNil, tVar, tC, rI0, rI, rU, rEq, rNe, tRet, tRetN, tAsg, gName, gSub, tBM, tBM0, tNext, tB, tNot, tAnd, tOr, tIf, tCall, tDrop, tBreak, tCont, L2.start, tDGet, sDPut, tTup, tLst, tDNewK, tRevL, rCat, rAppend, rPop, rSetL, tAndV, tOrV, tNotV, tSl, tPart, tNoPart, tM1, gTup, gCons, gNil, cxK, cxnK, List.map_cons, List.map_nil, List.length_cons, List.length_nil, List.replicate, List.cons_append, List.nil_append, List.append_nil, List.set_cons_zero, List.set_cons_succ, List.getElem?_cons_zero, List.getElem?_cons_succ, Option.some.injEq, V.ref.injEq, V.int.injEq, V.str.injEq, V.bl.injEq, V.ty.injEq, exists_eq_left', exists_eq_left, exists_and_left, List.cons.injEq, and_true, true_and, sc_ii, sc_ss, sc_bb, sc_ni, sc_in, sc_is, sc_si, sc_nn, decide_true, decide_false, reduceCtorEq, Bool.false_eq_true, if_true, if_false, ite_true, ite_false, exists_const, eq_self, false_and, and_false, or_false, false_or, exists_false, Evl.rLenS, rSum, wipe, tYes, exists_eq, exists_eq', rIxL, rIxT, rIxS, exists_and_right, gt_iff_lt, not_true_eq_false, not_false_eq_true, Bool.not_true, Bool.not_false, decide_eq_true_eq, Nat.reduceSub, Nat.reduceAdd, List.append_assoc, tChain, tDIn, tDNotIn, sDDel, tAug, ipI]
    refine ⟨_, .inl (sq_l hcl), by omega, ?_⟩
    rw [List.length_map]
    have s0 := Int.emod_nonneg far (show ((cs.length : Nat) : Int) + 1 ≠ 0 by omega)
    have s1 := Int.emod_lt_of_pos far (show (0 : Int) < ((cs.length : Nat) : Int) + 1 by omega)
    obtain ⟨sp, esp⟩ : ∃ sp : Nat, far % (((cs.length : Nat) : Int) + 1) = (sp : Nat) := ⟨(far % (((cs.length : Nat) : Int) + 1)).toNat, by omega⟩
    rw [esp]
    have spl : sp ≤ cs.length := by omega
    refine ⟨_, _, rfl, sq_l hcl, fun l1 nl1 => ?_⟩
    have k1 : Kp [] H (upd H l1 (.lst ((cs.take sp).map V.str))) := Kp.new nl1
    show ∃ x, _
    rw [cut_0j]
    have h1 : (upd H l1 (.lst ((cs.take sp).map V.str))) l1 = some (.lst ((cs.take sp).map V.str)) := upd_same
    generalize (upd H l1 (.lst ((cs.take sp).map V.str))) = H1 at k1 h1 ⊢
    have at7 : atI (ns.map V.str) 7 = some (.str n7) := atI_of (by decide) (by rw [List.getElem?_map]; exact congrArg (Option.map V.str) e7)
    have at8 : atI (ns.map V.str) 8 = some (.str n8) := atI_of (by decide) (by rw [List.getElem?_map]; exact congrArg (Option.map V.str) e8)
    have tk1 : (cs.take sp).length ≤ 100 := by rw [List.length_take]; omega
    refine ⟨_, sq_l (k1 _ _ not0 hni), _, at7, by decide, fun l2 nl2 => ?_⟩
    have k2 : Kp [] H1 (upd H1 l2 (.lst [.str n7])) := Kp.new nl2
    have h2 : (upd H1 l2 (.lst [.str n7])) l2 = some (.lst [.str n7]) := upd_same
    generalize (upd H1 l2 (.lst [.str n7])) = H2 at k2 h2 ⊢
    refine ⟨l1, rfl, _, k2 _ _ not0 h1, _, h2, small (by rw [List.length_map]; show _ + 1 ≤ _; omega), fun l3 nl3 => ?_⟩
    have k3 : Kp [] H2 (upd H2 l3 (.lst ((cs.take sp).map V.str ++ [.str n7]))) := Kp.new nl3
    have h3 : (upd H2 l3 (.lst ((cs.take sp).map V.str ++ [.str n7]))) l3 = some (.lst ((cs.take sp).map V.str ++ [.str n7])) := upd_same
    generalize (upd H2 l3 (.lst ((cs.take sp).map V.str ++ [.str n7]))) = H3 at k3 h3 ⊢
    have k13 := (k1.trans k2).trans k3
    refine ⟨_, _, rfl, sq_l (k13 _ _ not0 hcl), fun l4 nl4 => ?_⟩
    rw [cut_i]
    have k4 : Kp [] H3 (upd H3 l4 (.lst ((cs.drop sp).map V.str))) := Kp.new nl4
    have h4 : (upd H3 l4 (.lst ((cs.drop sp).map V.str))) l4 = some (.lst ((cs.drop sp).map V.str)) := upd_same
    generalize (upd H3 l4 (.lst ((cs.drop sp).map V.str))) = H4 at k4 h4 ⊢
    have dk1 : (cs.drop sp).length ≤ 100 := by rw [List.length_drop]; omega
    refine ⟨l4, rfl, _, k4 _ _ not0 h3, _, h4, small (by simp only [List.length_append, List.length_map, List.length_singleton]; omega), fun l5 nl5 => ?_⟩
    have k5 : Kp [] H4 (upd H4 l5 (.lst ((cs.take sp).map V.str ++ [.str n7] ++ (cs.drop sp).map V.str))) := Kp.new nl5
    have h5 : (upd H4 l5 (.lst ((cs.take sp).map V.str ++ [.str n7] ++ (cs.drop sp).map V.str))) l5 = some (.lst ((cs.take sp).map V.str ++ [.str n7] ++ (cs.drop sp).map V.str)) := upd_same
    generalize (upd H4 l5 (.lst ((cs.take sp).map V.str ++ [.str n7] ++ (cs.drop sp).map V.str))) = H5 at k5 h5 ⊢
    have k15 := (k13.trans k4).trans k5
    refine ⟨_, sq_l (k15 _ _ not0 hni), _, at8, by decide, fun l6 nl6 => ?_⟩
    have k6 : Kp [] H5 (upd H5 l6 (.lst [.str n8])) := Kp.new nl6
    have h6 : (upd H5 l6 (.lst [.str n8])) l6 = some (.lst [.str n8]) := upd_same
    generalize (upd H5 l6 (.lst [.str n8])) = H6 at k6 h6 ⊢
    refine ⟨_, k6 _ _ not0 h5, _, h6, small (by simp only [List.length_append, List.length_map, List.length_singleton]; omega), fun p7 np7 => ?_⟩
    have emx : (cs.take sp).map V.str ++ [.str n7] ++ (cs.drop sp).map V.str ++ [.str n8] = (cs.take sp ++ [n7] ++ cs.drop sp ++ [n8]).map V.str := by simp
    rw [emx]
    have k7 : Kp [] H6 (upd H6 p7 (.lst ((cs.take sp ++ [n7] ++ cs.drop sp ++ [n8]).map V.str))) := Kp.new np7
    have h7 : (upd H6 p7 (.lst ((cs.take sp ++ [n7] ++ cs.drop sp ++ [n8]).map V.str))) p7 = some (.lst ((cs.take sp ++ [n7] ++ cs.drop sp ++ [n8]).map V.str)) := upd_same
    generalize (upd H6 p7 (.lst ((cs.take sp ++ [n7] ++ cs.drop sp ++ [n8]).map V.str))) = H7 at k7 h7 ⊢
    have k07 := (k15.trans k6).trans k7
    have mx : ∀ (j : Nat) y, j < sp → (cs.take sp ++ [n7] ++ cs.drop sp ++ [n8])[j]? = some y → y ∈ zs := fun j y hj ey => by
      have tl : (cs.take sp).length = sp := by rw [List.length_take]; omega
      rw [List.append_assoc, List.append_assoc, List.getElem?_append_left (by omega)] at ey
      exact cm y (List.mem_of_mem_take (List.mem_of_getElem? ey))
    have mxs : (cs.take sp ++ [n7] ++ cs.drop sp ++ [n8])[sp]? = some n7 := by
      have tl : (cs.take sp).length = sp := by rw [List.length_take]; omega
      rw [List.append_assoc, List.append_assoc, List.getElem?_append_right (by omega), tl, Nat.sub_self]; rfl
    have mxl : (cs.take sp ++ [n7] ++ cs.drop sp ++ [n8]).length ≤ 1000 := by simp only [List.length_append, List.length_singleton]; omega
    obtain ⟨rs, hT0, en, hc⟩ := id hT
    have nmz : ∀ z ∈ zs, nameS z = true := by rw [← en]; exact hT0.bnd.2.2.1
    have n7l := name8 nm7
    have n8l := name8 nm8
    have mx8 : ∀ z ∈ cs.take sp ++ [n7] ++ cs.drop sp ++ [n8], z.length ≤ 1000 := fun z hz => by
      simp only [List.mem_append, List.mem_singleton] at hz
      rcases hz with ((hz | rfl) | hz) | rfl
      · exact name8 (nmz z (cm z (List.mem_of_mem_take hz)))
      · exact n7l
      · exact name8 (nmz z (cm z (List.mem_of_mem_drop hz)))
      · exact n8l
    have st0 : ∃ z, z ∈ ks ∧ ks[0]? = some z := by
      cases ks with
      | nil => exact absurd rfl kne
      | cons z r => exact ⟨z, by simp, rfl⟩
    obtain ⟨k0, k0mem, ek0⟩ := st0
    have atk : atI (ks.map V.str) 0 = some (.str k0) := atI_of (by decide) (by rw [List.getElem?_map]; exact congrArg (Option.map V.str) ek0)
    have kal : (ks.map V.str).length ≤ 6 := by rw [List.length_map]; exact kl
    refine forLst (fun vs H9 => (∃ a b c d, vs = [.int a, .int b, .int c, .int d]) ∧ Kp [] H7 H9) (fun R hR => ?_) (fun vs H1 h => by obtain ⟨⟨_, _, _, _, rfl⟩, _⟩ := h; exact (show (4 : Nat) ≤ 1000 by decide)) fun vs H9 p9 h9 np9 => ?_
    · try simp only [tSeq, tIfS, tTest, tOp, tUn, tCB, tCons, tNil, tVar, tC, rI0, rI, rU, rEq, rNe, tRet, tRetN, tAsg, gName, gSub, tBM, tBM0, tNext, tB, tNot, tAnd, tOr, tIf, tCall, tDrop, tBreak, tCont, L2.start, tDGet, sDPut, tTup, tLst, tDNewK, tRevL, rCat, rAppend, rPop, rSetL, tAndV, tOrV, tNotV, tSl, tPart, tNoPart, tM1, gTup, gCons, gNil, cxK, cxnK, List.map_cons, List.map_nil, List.length_cons, List.length_nil, List.replicate, List.cons_append, List.nil_append, List.append_nil, List.set_cons_zero, List.set_cons_succ, List.getElem?_cons_zero, List.getElem?_cons_succ, Option.some.injEq, V.ref.injEq, V.int.injEq, V.str.injEq, V.bl.injEq, V.ty.injEq, exists_eq_left', exists_eq_left, exists_and_left, List.cons.injEq, and_true, true_and, sc_ii, sc_ss, sc_bb, sc_ni, sc_in, sc_is, sc_si, sc_nn, decide_true, decide_false, reduceCtorEq, Bool.false_eq_true, if_true, if_false, ite_true, ite_false, exists_const, eq_self, false_and, and_false, or_false, false_or, exists_false, Evl.rLenS, rSum, wipe, tYes, exists_eq, exists_eq', rIxL, rIxT, rIxS, exists_and_right, gt_iff_lt, not_true_eq_false, not_false_eq_true, Bool.not_true, Bool.not_false, decide_eq_true_eq, Nat.reduceSub, Nat.reduceAdd, List.append_assoc, tChain, tDIn, tDNotIn, sDDel, tAug, ipI]
      exact hR _ _ ⟨⟨_, _, _, _, rfl⟩, Kp.refl _ _⟩
    obtain ⟨⟨a1, a2, a3, a4, rfl⟩, k9⟩ := h9
    have k10 : Kp [] H9 (upd H9 p9 (.lst [.int a1, .int a2, .int a3, .int a4])) := Kp.new np9
    have h10 : (upd H9 p9 (.lst [.int a1, .int a2, .int a3, .int a4])) p9 = some (.lst [.int a1, .int a2, .int a3, .int a4]) := upd_same
    generalize (upd H9 p9 (.lst [.int a1, .int a2, .int a3, .int a4])) = H10 at k10 h10 ⊢
    have k0a := (k07.trans k9).trans k10
    have allI : ∀ {a b c d : Int} {i : Nat} {x : V}, ([.int a, .int b, .int c, .int d] : List V)[i]? = some x → ∃ s, x = .int s := fun {a b c d i x} e => by
      have := List.mem_of_getElem? e
      simp at this
      rcases this with rfl | rfl | rfl | rfl <;> exact ⟨_, rfl⟩
    refine ⟨p9, rfl, ⟨_, sq_l h10⟩, for_list (K := K) (a := p9) (xs := [.int a1, .int a2, .int a3, .int a4]) (fun i σ H' => ∃ c8, σ = [some (.ref t), some (.ref cl), some (.ref ch), some (.int (m : Nat)), some (.int far), some (.ref ni), some (.int (sp : Nat)), some (.ref p7), c8] ∧ Kp [] H10 H') ⟨_, rfl, Kp.refl _ _⟩ (fun i σ H' _ h => by obtain ⟨_, _, k⟩ := h; exact k.ls not0 (sq_l h10)) ?_ ?_⟩
    · rintro i x σ H11 hx ⟨c8, rfl, k11⟩
      obtain ⟨s, rfl⟩ := allI hx
      try simp only [tSeq, tIfS, tTest, tOp, tUn, tCB, tCons, tNil, tVar, tC, rI0, rI, rU, rEq, rNe, tRet, tRetN, tAsg, gName, gSub, tBM, tBM0, tNext, tB, tNot, tAnd, tOr, tIf, tCall, tDrop, tBreak, tCont, L2.start, tDGet, sDPut, tTup, tLst, tDNewK, tRevL, rCat, rAppend, rPop, rSetL, tAndV, tOrV, tNotV, tSl, tPart, tNoPart, tM1, gTup, gCons, gNil, cxK, cxnK, List.map_cons, List.map_nil, List.length_cons, List.length_nil, List.replicate, List.cons_append, List.nil_append, List.append_nil, List.set_cons_zero, List.set_cons_succ, List.getElem?_cons_zero, List.getElem?_cons_succ, Option.some.injEq, V.ref.injEq, V.int.injEq, V.str.injEq, V.bl.injEq, V.ty.injEq, exists_eq_left', exists_eq_left, exists_and_left, List.cons.injEq, and_true, true_and, sc_ii, sc_ss, sc_bb, sc_ni, sc_in, sc_is, sc_si, sc_nn, decide_true, decide_false, reduceCtorEq, Bool.false_eq_true, if_true, if_false, ite_true, ite_false, exists_const, eq_self, false_and, and_false, or_false, false_or, exists_false, Evl.rLenS, rSum, wipe, tYes, exists_eq, exists_eq', rIxL, rIxT, rIxS, exists_and_right, gt_iff_lt, not_true_eq_false, not_false_eq_true, Bool.not_true, Bool.not_false, decide_eq_true_eq, Nat.reduceSub, Nat.reduceAdd, List.append_assoc, tChain, tDIn, tDNotIn, sDDel, tAug, ipI]
      have k0b := k0a.trans k11
      refine ⟨by decide, fun e ne => ?_⟩
      have ke : Kp [] H11 (upd H11 e (.lst [])) := Kp.new ne
      have he : (upd H11 e (.lst [])) e = some (.lst []) := upd_same
      generalize (upd H11 e (.lst [])) = H12 at ke he ⊢
      have k0c := k0b.trans ke
      refine ⟨_, sq_l (k0c _ _ not0 hni), _, at7, t, e, 0, s, n7, m, start, zs, [], c, rfl, hT.kp k0c, he, by decide, (fun _ h => nomatch h), n7l, o7, .inl rfl, fun H13 k13' => ?_⟩
      try simp only [tSeq, tIfS, tTest, tOp, tUn, tCB, tCons, tNil, tVar, tC, rI0, rI, rU, rEq, rNe, tRet, tRetN, tAsg, gName, gSub, tBM, tBM0, tNext, tB, tNot, tAnd, tOr, tIf, tCall, tDrop, tBreak, tCont, L2.start, tDGet, sDPut, tTup, tLst, tDNewK, tRevL, rCat, rAppend, rPop, rSetL, tAndV, tOrV, tNotV, tSl, tPart, tNoPart, tM1, gTup, gCons, gNil, cxK, cxnK, List.map_cons, List.map_nil, List.length_cons, List.length_nil, List.replicate, List.cons_append, List.nil_append, List.append_nil, List.set_cons_zero, List.set_cons_succ, List.getElem?_cons_zero, List.getElem?_cons_succ, Option.some.injEq, V.ref.injEq, V.int.injEq, V.str.injEq, V.bl.injEq, V.ty.injEq, exists_eq_left', exists_eq_left, exists_and_left, List.cons.injEq, and_true, true_and, sc_ii, sc_ss, sc_bb, sc_ni, sc_in, sc_is, sc_si, sc_nn, decide_true, decide_false, reduceCtorEq, Bool.false_eq_true, if_true, if_false, ite_true, ite_false, exists_const, eq_self, false_and, and_false, or_false, false_or, exists_false, Evl.rLenS, rSum, wipe, tYes, exists_eq, exists_eq', rIxL, rIxT, rIxS, exists_and_right, gt_iff_lt, not_true_eq_false, not_false_eq_true, Bool.not_true, Bool.not_false, decide_eq_true_eq, Nat.reduceSub, Nat.reduceAdd, List.append_assoc, tChain, tDIn, tDNotIn, sDDel, tAug, ipI]
      exact (k11.trans ke).trans k13'
    rintro σ H11 ⟨c8, rfl, k11⟩
    have k0b := k0a.trans k11
    try simp only [tSeq, tIfS, tTest, tOp, tUn, tCB, tCons, tNil, tVar, tC, rI0, rI, rU, rEq, rNe, tRet, tRetN, tAsg, gName, gSub, tBM, tBM0, tNext, tB, tNot, tAnd, tOr, tIf, tCall, tDrop, tBreak, tCont, L2.start, tDGet, sDPut, tTup, tLst, tDNewK, tRevL, rCat, rAppend, rPop, rSetL, tAndV, tOrV, tNotV, tSl, tPart, tNoPart, tM1, gTup, gCons, gNil, cxK, cxnK, List.map_cons, List.map_nil, List.length_cons, List.length_nil, List.replicate, List.cons_append, List.nil_append, List.append_nil, List.set_cons_zero, List.set_cons_succ, List.getElem?_cons_zero, List.getElem?_cons_succ, Option.some.injEq, V.ref.injEq, V.int.injEq, V.str.injEq, V.bl.injEq, V.ty.injEq, exists_eq_left', exists_eq_left, exists_and_left, List.cons.injEq, and_true, true_and, sc_ii, sc_ss, sc_bb, sc_ni, sc_in, sc_is, sc_si, sc_nn, decide_true, decide_false, reduceCtorEq, Bool.false_eq_true, if_true, if_false, ite_true, ite_false, exists_const, eq_self, false_and, and_false, or_false, false_or, exists_false, Evl.rLenS, rSum, wipe, tYes, exists_eq, exists_eq', rIxL, rIxT, rIxS, exists_and_right, gt_iff_lt, not_true_eq_false, not_false_eq_true, Bool.not_true, Bool.not_false, decide_eq_true_eq, Nat.reduceSub, Nat.reduceAdd, List.append_assoc, tChain, tDIn, tDNotIn, sDDel, tAug, ipI]
    have way : ∀ {xs : List Str} {odd : Str} {i : Nat}, xs[i]? = some odd → (∀ (j : Nat) y, j < i → xs[j]? = some y → y ∈ zs) → ∀ {W : Prop}, W ∨ ∃ i : Nat, xs[i]? = some odd ∧ ∀ (j : Nat) y, j < i → xs[j]? = some y → y ∈ zs := fun {xs odd i} e h {W} => .inr ⟨i, e, h⟩
    have ks8 : ∀ z ∈ ks, z.length ≤ 1000 := fun z hz => name8 (nmz z (km z hz))
    refine ⟨_, sq_l (k0b _ _ not0 hni), _, at7, t, p7, 1, 0, n7, m, start, zs, _, c, rfl, hT.kp k0b, ((k9.trans k10).trans k11) _ _ not0 h7, mxl, mx8, n7l, o7, way mxs mx, fun H12 k12 => ?_⟩
    have k0c := k0b.trans k12
    try simp only [tSeq, tIfS, tTest, tOp, tUn, tCB, tCons, tNil, tVar, tC, rI0, rI, rU, rEq, rNe, tRet, tRetN, tAsg, gName, gSub, tBM, tBM0, tNext, tB, tNot, tAnd, tOr, tIf, tCall, tDrop, tBreak, tCont, L2.start, tDGet, sDPut, tTup, tLst, tDNewK, tRevL, rCat, rAppend, rPop, rSetL, tAndV, tOrV, tNotV, tSl, tPart, tNoPart, tM1, gTup, gCons, gNil, cxK, cxnK, List.map_cons, List.map_nil, List.length_cons, List.length_nil, List.replicate, List.cons_append, List.nil_append, List.append_nil, List.set_cons_zero, List.set_cons_succ, List.getElem?_cons_zero, List.getElem?_cons_succ, Option.some.injEq, V.ref.injEq, V.int.injEq, V.str.injEq, V.bl.injEq, V.ty.injEq, exists_eq_left', exists_eq_left, exists_and_left, List.cons.injEq, and_true, true_and, sc_ii, sc_ss, sc_bb, sc_ni, sc_in, sc_is, sc_si, sc_nn, decide_true, decide_false, reduceCtorEq, Bool.false_eq_true, if_true, if_false, ite_true, ite_false, exists_const, eq_self, false_and, and_false, or_false, false_or, exists_false, Evl.rLenS, rSum, wipe, tYes, exists_eq, exists_eq', rIxL, rIxT, rIxS, exists_and_right, gt_iff_lt, not_true_eq_false, not_false_eq_true, Bool.not_true, Bool.not_false, decide_eq_true_eq, Nat.reduceSub, Nat.reduceAdd, List.append_assoc, tChain, tDIn, tDNotIn, sDDel, tAug, ipI]
    refine ⟨_, sq_l (k0c _ _ not0 hni), _, at7, by decide, fun q1 nq1 => ?_⟩
    have kq1 : Kp [] H12 (upd H12 q1 (.lst [.str n7])) := Kp.new nq1
    have hq1 : (upd H12 q1 (.lst [.str n7])) q1 = some (.lst [.str n7]) := upd_same
    generalize (upd H12 q1 (.lst [.str n7])) = H13 at kq1 hq1 ⊢
    have k0d := k0c.trans kq1
    refine ⟨_, k0d _ _ not0 hch, _, hq1, small (by rw [List.length_map]; show _ + 1 ≤ _; omega), fun q2 nq2 => ?_⟩
    have e2 : ks.map V.str ++ [.str n7] = (ks ++ [n7]).map V.str := by simp
    rw [e2]
    have kq2 : Kp [] H13 (upd H13 q2 (.lst ((ks ++ [n7]).map V.str))) := Kp.new nq2
    have hq2 : (upd H13 q2 (.lst ((ks ++ [n7]).map V.str))) q2 = some (.lst ((ks ++ [n7]).map V.str)) := upd_same
    generalize (upd H13 q2 (.lst ((ks ++ [n7]).map V.str))) = H14 at kq2 hq2 ⊢
    have k0e := k0d.trans kq2
    refine ⟨_, sq_l (k0e _ _ not0 hni), _, at7, t, q2, 2, 0, n7, m, start, zs, _, c, rfl, hT.kp k0e, hq2, by rw [List.length_append]; show _ + 1 ≤ 1000; omega, fun z hz => ?_, n7l, o7, way (i := ks.length) (by rw [List.getElem?_append_right (Nat.le_refl _), Nat.sub_self]; rfl) (fun j y hj ey => km y (List.mem_of_getElem? (by rw [List.getElem?_append_left hj] at ey; exact ey))), fun H15 k15' => ?_⟩
    · rcases List.mem_append.mp hz with h | h
      · exact ks8 z h
      · rw [List.mem_singleton.mp h]; exact n7l
    have k0f := k0e.trans k15'
    try simp only [tSeq, tIfS, tTest, tOp, tUn, tCB, tCons, tNil, tVar, tC, rI0, rI, rU, rEq, rNe, tRet, tRetN, tAsg, gName, gSub, tBM, tBM0, tNext, tB, tNot, tAnd, tOr, tIf, tCall, tDrop, tBreak, tCont, L2.start, tDGet, sDPut, tTup, tLst, tDNewK, tRevL, rCat, rAppend, rPop, rSetL, tAndV, tOrV, tNotV, tSl, tPart, tNoPart, tM1, gTup, gCons, gNil, cxK, cxnK, List.map_cons, List.map_nil, List.length_cons, List.length_nil, List.replicate, List.cons_append, List.nil_append, List.append_nil, List.set_cons_zero, List.set_cons_succ, List.getElem?_cons_zero, List.getElem?_cons_succ, Option.some.injEq, V.ref.injEq, V.int.injEq, V.str.injEq, V.bl.injEq, V.ty.injEq, exists_eq_left', exists_eq_left, exists_and_left, List.cons.injEq, and_true, true_and, sc_ii, sc_ss, sc_bb, sc_ni, sc_in, sc_is, sc_si, sc_nn, decide_true, decide_false, reduceCtorEq, Bool.false_eq_true, if_true, if_false, ite_true, ite_false, exists_const, eq_self, false_and, and_false, or_false, false_or, exists_false, Evl.rLenS, rSum, wipe, tYes, exists_eq, exists_eq', rIxL, rIxT, rIxS, exists_and_right, gt_iff_lt, not_true_eq_false, not_false_eq_true, Bool.not_true, Bool.not_false, decide_eq_true_eq, Nat.reduceSub, Nat.reduceAdd, List.append_assoc, tChain, tDIn, tDNotIn, sDDel, tAug, ipI]
    refine ⟨_, sq_l (k0f _ _ not0 hni), _, at8, by decide, fun q3 nq3 => ?_⟩
    have kq3 : Kp [] H15 (upd H15 q3 (.lst [.str n8])) := Kp.new nq3
    have hq3 : (upd H15 q3 (.lst [.str n8])) q3 = some (.lst [.str n8]) := upd_same
    generalize (upd H15 q3 (.lst [.str n8])) = H16 at kq3 hq3 ⊢
    have k0g := k0f.trans kq3
    refine ⟨_, hq3, _, k0g _ _ not0 hch, small (by rw [List.length_map]; show 1 + _ ≤ _; omega), fun q4 nq4 => ?_⟩
    have e4 : [.str n8] ++ ks.map V.str = (n8 :: ks).map V.str := rfl
    rw [e4]
    have kq4 : Kp [] H16 (upd H16 q4 (.lst ((n8 :: ks).map V.str))) := Kp.new nq4
    have hq4 : (upd H16 q4 (.lst ((n8 :: ks).map V.str))) q4 = some (.lst ((n8 :: ks).map V.str)) := upd_same
    generalize (upd H16 q4 (.lst ((n8 :: ks).map V.str))) = H17 at kq4 hq4 ⊢
    have k0h := k0g.trans kq4
    refine ⟨_, sq_l (k0h _ _ not0 hni), _, at8, t, q4, 2, 0, n8, m, start, zs, _, c, rfl, hT.kp k0h, hq4, by rw [List.length_cons]; omega, fun z hz => ?_, n8l, o8, way (i := 0) rfl (fun j y hj => absurd hj (by omega)), fun H18 k18 => ?_⟩
    · rcases List.mem_cons.mp hz with rfl | h
      · exact n8l
      · exact ks8 z h
    have k0i := k0h.trans k18
    try simp only [tSeq, tIfS, tTest, tOp, tUn, tCB, tCons, tNil, tVar, tC, rI0, rI, rU, rEq, rNe, tRet, tRetN, tAsg, gName, gSub, tBM, tBM0, tNext, tB, tNot, tAnd, tOr, tIf, tCall, tDrop, tBreak, tCont, L2.start, tDGet, sDPut, tTup, tLst, tDNewK, tRevL, rCat, rAppend, rPop, rSetL, tAndV, tOrV, tNotV, tSl, tPart, tNoPart, tM1, gTup, gCons, gNil, cxK, cxnK, List.map_cons, List.map_nil, List.length_cons, List.length_nil, List.replicate, List.cons_append, List.nil_append, List.append_nil, List.set_cons_zero, List.set_cons_succ, List.getElem?_cons_zero, List.getElem?_cons_succ, Option.some.injEq, V.ref.injEq, V.int.injEq, V.str.injEq, V.bl.injEq, V.ty.injEq, exists_eq_left', exists_eq_left, exists_and_left, List.cons.injEq, and_true, true_and, sc_ii, sc_ss, sc_bb, sc_ni, sc_in, sc_is, sc_si, sc_nn, decide_true, decide_false, reduceCtorEq, Bool.false_eq_true, if_true, if_false, ite_true, ite_false, exists_const, eq_self, false_and, and_false, or_false, false_or, exists_false, Evl.rLenS, rSum, wipe, tYes, exists_eq, exists_eq', rIxL, rIxT, rIxS, exists_and_right, gt_iff_lt, not_true_eq_false, not_false_eq_true, Bool.not_true, Bool.not_false, decide_eq_true_eq, Nat.reduceSub, Nat.reduceAdd, List.append_assoc, tChain, tDIn, tDNotIn, sDDel, tAug, ipI]
    refine ⟨_, sq_l (k0i _ _ not0 hni), _, at7, by decide, fun q5 nq5 => ?_⟩
    have kq5 : Kp [] H18 (upd H18 q5 (.lst [.str n7])) := Kp.new nq5
    have hq5 : (upd H18 q5 (.lst [.str n7])) q5 = some (.lst (([n7] : List Str).map V.str)) := upd_same
    generalize (upd H18 q5 (.lst [.str n7])) = H19 at kq5 hq5 ⊢
    have k0j := k0i.trans kq5
    refine ⟨_, sq_l (k0j _ _ not0 hni), _, at7, t, q5, 2, 0, n7, m, start, zs, [n7], c, rfl, hT.kp k0j, hq5, show (1 : Nat) ≤ 1000 by decide, fun z hz => ?_, n7l, o7, way (i := 0) rfl (fun j y hj => absurd hj (by omega)), fun H20 k20 => ?_⟩
    · rw [List.mem_singleton.mp hz]; exact n7l
    have k0k := k0j.trans k20
    try simp only [tSeq, tIfS, tTest, tOp, tUn, tCB, tCons, tNil, tVar, tC, rI0, rI, rU, rEq, rNe, tRet, tRetN, tAsg, gName, gSub, tBM, tBM0, tNext, tB, tNot, tAnd, tOr, tIf, tCall, tDrop, tBreak, tCont, L2.start, tDGet, sDPut, tTup, tLst, tDNewK, tRevL, rCat, rAppend, rPop, rSetL, tAndV, tOrV, tNotV, tSl, tPart, tNoPart, tM1, gTup, gCons, gNil, cxK, cxnK, List.map_cons, List.map_nil, List.length_cons, List.length_nil, List.replicate, List.cons_append, List.nil_append, List.append_nil, List.set_cons_zero, List.set_cons_succ, List.getElem?_cons_zero, List.getElem?_cons_succ, Option.some.injEq, V.ref.injEq, V.int.injEq, V.str.injEq, V.bl.injEq, V.ty.injEq, exists_eq_left', exists_eq_left, exists_and_left, List.cons.injEq, and_true, true_and, sc_ii, sc_ss, sc_bb, sc_ni, sc_in, sc_is, sc_si, sc_nn, decide_true, decide_false, reduceCtorEq, Bool.false_eq_true, if_true, if_false, ite_true, ite_false, exists_const, eq_self, false_and, and_false, or_false, false_or, exists_false, Evl.rLenS, rSum, wipe, tYes, exists_eq, exists_eq', rIxL, rIxT, rIxS, exists_and_right, gt_iff_lt, not_true_eq_false, not_false_eq_true, Bool.not_true, Bool.not_false, decide_eq_true_eq, Nat.reduceSub, Nat.reduceAdd, List.append_assoc, tChain, tDIn, tDNotIn, sDDel, tAug, ipI]
    refine forLst (fun vs H9 => (∃ a b c d, vs = [.int a, .int b, .int c, .int d] ∧ ∀ s ∈ [a, b, c, d], s < 0 ∨ (m : Int) ≤ s) ∧ Kp [] H20 H9) (fun R hR => ?_) (fun vs H1 h => by obtain ⟨⟨_, _, _, _, rfl, _⟩, _⟩ := h; exact (show (4 : Nat) ≤ 1000 by decide)) fun vs H21 p9 h21 np9' => ?_
    · try simp only [tSeq, tIfS, tTest, tOp, tUn, tCB, tCons, tNil, tVar, tC, rI0, rI, rU, rEq, rNe, tRet, tRetN, tAsg, gName, gSub, tBM, tBM0, tNext, tB, tNot, tAnd, tOr, tIf, tCall, tDrop, tBreak, tCont, L2.start, tDGet, sDPut, tTup, tLst, tDNewK, tRevL, rCat, rAppend, rPop, rSetL, tAndV, tOrV, tNotV, tSl, tPart, tNoPart, tM1, gTup, gCons, gNil, cxK, cxnK, List.map_cons, List.map_nil, List.length_cons, List.length_nil, List.replicate, List.cons_append, List.nil_append, List.append_nil, List.set_cons_zero, List.set_cons_succ, List.getElem?_cons_zero, List.getElem?_cons_succ, Option.some.injEq, V.ref.injEq, V.int.injEq, V.str.injEq, V.bl.injEq, V.ty.injEq, exists_eq_left', exists_eq_left, exists_and_left, List.cons.injEq, and_true, true_and, sc_ii, sc_ss, sc_bb, sc_ni, sc_in, sc_is, sc_si, sc_nn, decide_true, decide_false, reduceCtorEq, Bool.false_eq_true, if_true, if_false, ite_true, ite_false, exists_const, eq_self, false_and, and_false, or_false, false_or, exists_false, Evl.rLenS, rSum, wipe, tYes, exists_eq, exists_eq', rIxL, rIxT, rIxS, exists_and_right, gt_iff_lt, not_true_eq_false, not_false_eq_true, Bool.not_true, Bool.not_false, decide_eq_true_eq, Nat.reduceSub, Nat.reduceAdd, List.append_assoc, tChain, tDIn, tDNotIn, sDDel, tAug, ipI]
      refine hR _ _ ⟨⟨_, _, _, _, rfl, fun s hs => ?_⟩, Kp.refl _ _⟩
      simp only [List.mem_cons, List.not_mem_nil, or_false] at hs
      rcases hs with rfl | rfl | rfl | rfl <;> omega
    obtain ⟨⟨b1, b2, b3, b4, rfl, hb⟩, k21⟩ := h21
    have k22 : Kp [] H21 (upd H21 p9 (.lst [.int b1, .int b2, .int b3, .int b4])) := Kp.new np9'
    have h22 : (upd H21 p9 (.lst [.int b1, .int b2, .int b3, .int b4])) p9 = some (.lst [.int b1, .int b2, .int b3, .int b4]) := upd_same
    generalize (upd H21 p9 (.lst [.int b1, .int b2, .int b3, .int b4])) = H22 at k22 h22 ⊢
    have k0l := (k0k.trans k21).trans k22
    refine ⟨p9, rfl, ⟨_, sq_l h22⟩, for_list (K := K) (a := p9) (xs := [.int b1, .int b2, .int b3, .int b4]) (fun i σ H' => ∃ c8, σ = [some (.ref t), some (.ref cl), some (.ref ch), some (.int (m : Nat)), some (.int far), some (.ref ni), some (.int (sp : Nat)), some (.ref p7), c8] ∧ Kp [] H22 H') ⟨_, rfl, Kp.refl _ _⟩ (fun i σ H' _ h => by obtain ⟨_, _, k⟩ := h; exact k.ls not0 (sq_l h22)) ?_ ?_⟩
    · rintro i x σ H23 hx ⟨c8, rfl, k23⟩
      obtain ⟨s, hs, rfl⟩ : ∃ s, s ∈ [b1, b2, b3, b4] ∧ V.int s = x := List.mem_map.mp (show x ∈ [b1, b2, b3, b4].map V.int from List.mem_of_getElem? hx)
      try simp only [tSeq, tIfS, tTest, tOp, tUn, tCB, tCons, tNil, tVar, tC, rI0, rI, rU, rEq, rNe, tRet, tRetN, tAsg, gName, gSub, tBM, tBM0, tNext, tB, tNot, tAnd, tOr, tIf, tCall, tDrop, tBreak, tCont, L2.start, tDGet, sDPut, tTup, tLst, tDNewK, tRevL, rCat, rAppend, rPop, rSetL, tAndV, tOrV, tNotV, tSl, tPart, tNoPart, tM1, gTup, gCons, gNil, cxK, cxnK, List.map_cons, List.map_nil, List.length_cons, List.length_nil, List.replicate, List.cons_append, List.nil_append, List.append_nil, List.set_cons_zero, List.set_cons_succ, List.getElem?_cons_zero, List.getElem?_cons_succ, Option.some.injEq, V.ref.injEq, V.int.injEq, V.str.injEq, V.bl.injEq, V.ty.injEq, exists_eq_left', exists_eq_left, exists_and_left, List.cons.injEq, and_true, true_and, sc_ii, sc_ss, sc_bb, sc_ni, sc_in, sc_is, sc_si, sc_nn, decide_true, decide_false, reduceCtorEq, Bool.false_eq_true, if_true, if_false, ite_true, ite_false, exists_const, eq_self, false_and, and_false, or_false, false_or, exists_false, Evl.rLenS, rSum, wipe, tYes, exists_eq, exists_eq', rIxL, rIxT, rIxS, exists_and_right, gt_iff_lt, not_true_eq_false, not_false_eq_true, Bool.not_true, Bool.not_false, decide_eq_true_eq, Nat.reduceSub, Nat.reduceAdd, List.append_assoc, tChain, tDIn, tDNotIn, sDDel, tAug, ipI]
      have k0m := k0l.trans k23
      refine ⟨_, sq_l (k0m _ _ not0 hch), _, atk, t, s, k0, m, start, zs, c, rfl, hT.kp k0m, km _ k0mem, hb s hs, fun H24 k24 => ?_⟩
      try simp only [tSeq, tIfS, tTest, tOp, tUn, tCB, tCons, tNil, tVar, tC, rI0, rI, rU, rEq, rNe, tRet, tRetN, tAsg, gName, gSub, tBM, tBM0, tNext, tB, tNot, tAnd, tOr, tIf, tCall, tDrop, tBreak, tCont, L2.start, tDGet, sDPut, tTup, tLst, tDNewK, tRevL, rCat, rAppend, rPop, rSetL, tAndV, tOrV, tNotV, tSl, tPart, tNoPart, tM1, gTup, gCons, gNil, cxK, cxnK, List.map_cons, List.map_nil, List.length_cons, List.length_nil, List.replicate, List.cons_append, List.nil_append, List.append_nil, List.set_cons_zero, List.set_cons_succ, List.getElem?_cons_zero, List.getElem?_cons_succ, Option.some.injEq, V.ref.injEq, V.int.injEq, V.str.injEq, V.bl.injEq, V.ty.injEq, exists_eq_left', exists_eq_left, exists_and_left, List.cons.injEq, and_true, true_and, sc_ii, sc_ss, sc_bb, sc_ni, sc_in, sc_is, sc_si, sc_nn, decide_true, decide_false, reduceCtorEq, Bool.false_eq_true, if_true, if_false, ite_true, ite_false, exists_const, eq_self, false_and, and_false, or_false, false_or, exists_false, Evl.rLenS, rSum, wipe, tYes, exists_eq, exists_eq', rIxL, rIxT, rIxS, exists_and_right, gt_iff_lt, not_true_eq_false, not_false_eq_true, Bool.not_true, Bool.not_false, decide_eq_true_eq, Nat.reduceSub, Nat.reduceAdd, List.append_assoc, tChain, tDIn, tDNotIn, sDDel, tAug, ipI]
      exact k23.trans k24
    rintro σ H23 ⟨c8', rfl, k23⟩
    try simp only [tSeq, tIfS, tTest, tOp, tUn, tCB, tCons, tNil, tVar, tC, rI0, rI, rU, rEq, rNe, tRet, tRetN, tAsg, gName, gSub, tBM, tBM0, tNext, tB, tNot, tAnd, tOr, tIf, tCall, tDrop, tBreak, tCont, L2.start, tDGet, sDPut, tTup, tLst, tDNewK, tRevL, rCat, rAppend, rPop, rSetL, tAndV, tOrV, tNotV, tSl, tPart, tNoPart, tM1, gTup, gCons, gNil, cxK, cxnK, List.map_cons, List.map_nil, List.length_cons, List.length_nil, List.replicate, List.cons_append, List.nil_append, List.append_nil, List.set_cons_zero, List.set_cons_succ, List.getElem?_cons_zero, List.getElem?_cons_succ, Option.some.injEq, V.ref.injEq, V.int.injEq, V.str.injEq, V.bl.injEq, V.ty.injEq, exists_eq_left', exists_eq_left, exists_and_left, List.cons.injEq, and_true, true_and, sc_ii, sc_ss, sc_bb, sc_ni, sc_in, sc_is, sc_si, sc_nn, decide_true, decide_false, reduceCtorEq, Bool.false_eq_true, if_true, if_false, ite_true, ite_false, exists_const, eq_self, false_and, and_false, or_false, false_or, exists_false, Evl.rLenS, rSum, wipe, tYes, exists_eq, exists_eq', rIxL, rIxT, rIxS, exists_and_right, gt_iff_lt, not_true_eq_false, not_false_eq_true, Bool.not_true, Bool.not_false, decide_eq_true_eq, Nat.reduceSub, Nat.reduceAdd, List.append_assoc, tChain, tDIn, tDNotIn, sDDel, tAug, ipI]
    exact ⟨t, m, start, zs, c, rfl, hT.kp (k0l.trans k23), fun H24 k24 => q H24 ((k0l.trans k23).trans k24)⟩
end
end My

set_option Elab.async false
set_option linter.all false
set_option maxRecDepth 100000
set_option maxHeartbeats 4000000
namespace My
open PySem L2 NdefX StX
def immD : PyData → Bool
  | .none => true
  | .bool _ => true
  | .int _ => true
  | .str _ => true
  | _ => false
def flatD : PyData → Bool
  | .tuple ds => ds.all immD
  | d => immD d
theorem immUp {H H' : Hp} {v : V} {d : PyData} (h : Dq H v d) (e : immD d = true) : Dq H' v d := by
  cases h with
  | non => exact .non
  | bl b => exact .bl b
  | int i => exact .int i
  | str x => exact .str x
  | lst _ _ => cases e
  | tup _ _ => cases e
theorem immAll {H H' : Hp} : ∀ {vs : List V} {ds : List PyData}, DqAll H vs ds → ds.all immD = true → DqAll H' vs ds
  | _, _, .nil, _ => .nil
  | _, _, .cons h t, e => by
    rw [List.all_cons, Bool.and_eq_true] at e
    exact .cons (immUp h e.1) (immAll t e.2)
theorem flatUp {H H' : Hp} (up : ∀ a xs, H a = some (.tup xs) → H' a = some (.tup xs)) {v : V} {d : PyData} (h : Dq H v d) (e : flatD d = true) : Dq H' v d := by
  cases h with
  | non => exact .non
  | bl b => exact .bl b
  | int i => exact .int i
  | str x => exact .str x
  | lst _ _ => cases e
  | tup ea ha => exact .tup (up _ _ ea) (immAll ha e)
theorem flatAll {H H' : Hp} (up : ∀ a xs, H a = some (.tup xs) → H' a = some (.tup xs)) : ∀ {vs : List V} {ds : List PyData}, DqAll H vs ds → ds.all flatD = true → DqAll H' vs ds
  | _, _, .nil, _ => .nil
  | _, _, .cons h t, e => by
    rw [List.all_cons, Bool.and_eq_true] at e
    exact .cons (flatUp up h e.1) (flatAll up t e.2)
theorem DqAll.set {H : Hp} : ∀ {vs : List V} {ds : List PyData} (i : Nat) {v : V} {d : PyData}, DqAll H vs ds → Dq H v d → DqAll H (vs.set i v) (ds.set i d)
  | _, _, _, _, _, .nil, _ => .nil
  | _, _, 0, _, _, .cons _ t, h => .cons h t
  | _, _, i + 1, _, _, .cons h0 t, h => .cons h0 (DqAll.set i t h)
theorem DqAll.erase {H : Hp} : ∀ {vs : List V} {ds : List PyData} (i : Nat), DqAll H vs ds → DqAll H (vs.eraseIdx i) (ds.eraseIdx i)
  | _, _, _, .nil => .nil
  | _, _, 0, .cons _ t => t
  | _, _, i + 1, .cons h0 t => .cons h0 (DqAll.erase i t)
theorem DqAll.app {H : Hp} : ∀ {vs us : List V} {ds es : List PyData}, DqAll H vs ds → DqAll H us es → DqAll H (vs ++ us) (ds ++ es)
  | _, _, _, _, .nil, h => h
  | _, _, _, _, .cons a t, h => .cons a (DqAll.app t h)
/-- items whose lists are all new and stand apart -/
structure ItsF (H0 H : Hp) (r : Addr) (its : List (Str × List PyData)) (pl : List (Addr × Addr)) : Prop where
  hr : H r = some (.lst (pl.map fun q => V.ref q.1))
  len : pl.length = its.length
  nr : H0 r = none
  new : ∀ q ∈ pl, H0 q.1 = none ∧ H0 q.2 = none ∧ q.1 ≠ r ∧ q.2 ≠ r
  apart : ∀ (i j : Nat) q q', i ≠ j → pl[i]? = some q → pl[j]? = some q' → q.1 ≠ q'.1 ∧ q.2 ≠ q'.2
  cross : ∀ q ∈ pl, ∀ q' ∈ pl, q.1 ≠ q'.2
  at_ : ∀ (i : Nat) q it, pl[i]? = some q → its[i]? = some it → H q.1 = some (.lst [.str it.1, .ref q.2]) ∧ ∃ xs, H q.2 = some (.lst xs) ∧ DqAll H xs it.2
  flat : ∀ it ∈ its, it.2.all flatD = true
theorem ItsF.get {H0 H : Hp} {r : Addr} {its : List (Str × List PyData)} {pl : List (Addr × Addr)} (h : ItsF H0 H r its pl) {i : Nat} {it : Str × List PyData} (e : its[i]? = some it) : ∃ p l xs, pl[i]? = some (p, l) ∧ (pl.map fun q => V.ref q.1)[i]? = some (.ref p) ∧ H p = some (.lst [.str it.1, .ref l]) ∧ H l = some (.lst xs) ∧ DqAll H xs it.2 := by
  have hi : i < pl.length := by rw [h.len]; exact (List.getElem?_eq_some_iff.mp e).1
  have eq_ : pl[i]? = some pl[i] := List.getElem?_eq_getElem hi
  obtain ⟨a, xs, b, c⟩ := h.at_ i _ it eq_ e
  exact ⟨pl[i].1, pl[i].2, xs, eq_, by rw [List.getElem?_map, eq_]; rfl, a, b, c⟩
theorem ItsF.items {H0 H : Hp} {r : Addr} {its : List (Str × List PyData)} {pl : List (Addr × Addr)} (h : ItsF H0 H r its pl) : Items H r its :=
  ⟨_, h.hr, by rw [List.length_map]; exact h.len, fun i it e => by
    obtain ⟨p, l, xs, e1, e2, a, b, c⟩ := h.get e
    exact ⟨_, e2, p, l, xs, rfl, a, b, c⟩⟩
theorem ItsF.kp {H0 H H' : Hp} {r : Addr} {its : List (Str × List PyData)} {pl : List (Addr × Addr)} (h : ItsF H0 H r its pl) (k : Kp [] H H') : ItsF H0 H' r its pl :=
  ⟨k _ _ not0 h.hr, h.len, h.nr, h.new, h.apart, h.cross, fun i q it e1 e2 => by
    obtain ⟨a, xs, b, c⟩ := h.at_ i q it e1 e2
    exact ⟨k _ _ not0 a, xs, k _ _ not0 b, c.kp k⟩, h.flat⟩
/-- the i-th item is changed: p and l alone may be other than they were -/
theorem ItsF.chg {H0 H H' : Hp} {r : Addr} {its : List (Str × List PyData)} {pl : List (Addr × Addr)} (h : ItsF H0 H r its pl) {i : Nat} {p l l' : Addr} {z' : Str} {xs' : List V} {ds' : List PyData} (e : pl[i]? = some (p, l)) (up : ∀ a o, a ≠ p → a ≠ l → H a = some o → H' a = some o)
    (hp : H' p = some (.lst [.str z', .ref l'])) (hl : H' l' = some (.lst xs')) (hd : DqAll H' xs' ds') : Items H' r (its.set i (z', ds')) := by
  have mi := List.mem_of_getElem? e
  obtain ⟨n1, n2, r1, r2⟩ := h.new _ mi
  refine ⟨_, up _ _ (Ne.symm r1) (Ne.symm r2) h.hr, by rw [List.length_map, List.length_set]; exact h.len, fun j it ej => ?_⟩
  by_cases ij : j = i
  · subst ij
    have hj : j < its.length := by rw [← h.len]; exact (List.getElem?_eq_some_iff.mp e).1
    rw [List.getElem?_set_self hj] at ej
    cases ej
    exact ⟨.ref p, by rw [List.getElem?_map, e]; rfl, p, l', xs', rfl, hp, hl, hd⟩
  · rw [List.getElem?_set_ne (Ne.symm ij)] at ej
    obtain ⟨q1, q2, ys, e1, e2, a, b, c⟩ := h.get ej
    obtain ⟨d1, d2⟩ := h.apart i j _ _ (Ne.symm ij) e e1
    have m2 := List.mem_of_getElem? e1
    have c1 := h.cross _ mi _ m2
    have c2 := h.cross _ m2 _ mi
    have fl := h.flat _ (List.mem_of_getElem? ej)
    have upT : ∀ a xs, H a = some (.tup xs) → H' a = some (.tup xs) := fun a xs ea => by
      obtain ⟨g1, ws, g2, _⟩ := h.at_ i _ (its[i]'(by rw [← h.len]; exact (List.getElem?_eq_some_iff.mp e).1)) e (List.getElem?_eq_getElem _)
      exact up a _ (fun z => by rw [z, g1] at ea; cases ea) (fun z => by rw [z, g2] at ea; cases ea) ea
    exact ⟨_, e2, q1, q2, ys, rfl, up _ _ (Ne.symm d1) c2 a, up _ _ (fun z => c1 z.symm) (Ne.symm d2) b, flatAll upT c fl⟩
theorem ItsF.chgF {H0 H H' : Hp} {r : Addr} {its : List (Str × List PyData)} {pl : List (Addr × Addr)} (h : ItsF H0 H r its pl) {i : Nat} {p l : Addr} {z' : Str} {xs' : List V} {ds' : List PyData} (e : pl[i]? = some (p, l)) (up : ∀ a o, a ≠ p → a ≠ l → H a = some o → H' a = some o)
    (hp : H' p = some (.lst [.str z', .ref l])) (hl : H' l = some (.lst xs')) (hd : DqAll H' xs' ds') (fl' : ds'.all flatD = true) : ItsF H0 H' r (its.set i (z', ds')) pl := by
  have mi := List.mem_of_getElem? e
  obtain ⟨n1, n2, r1, r2⟩ := h.new _ mi
  refine ⟨up _ _ (Ne.symm r1) (Ne.symm r2) h.hr, by rw [List.length_set]; exact h.len, h.nr, h.new, h.apart, h.cross, fun j q it eq_ ej => ?_, fun it hi => ?_⟩
  · by_cases ij : j = i
    · subst ij
      have hj : j < its.length := by rw [← h.len]; exact (List.getElem?_eq_some_iff.mp e).1
      rw [List.getElem?_set_self hj] at ej
      cases ej
      rw [e] at eq_
      cases eq_
      exact ⟨hp, xs', hl, hd⟩
    · rw [List.getElem?_set_ne (Ne.symm ij)] at ej
      obtain ⟨a, ys, b, c⟩ := h.at_ j q it eq_ ej
      obtain ⟨d1, d2⟩ := h.apart i j _ _ (Ne.symm ij) e eq_
      have m2 := List.mem_of_getElem? eq_
      have c1 := h.cross _ mi _ m2
      have c2 := h.cross _ m2 _ mi
      have fl := h.flat _ (List.mem_of_getElem? ej)
      have upT : ∀ a xs, H a = some (.tup xs) → H' a = some (.tup xs) := fun a xs ea => by
        obtain ⟨g1, ws, g2, _⟩ := h.at_ i _ (its[i]'(by rw [← h.len]; exact (List.getElem?_eq_some_iff.mp e).1)) e (List.getElem?_eq_getElem _)
        exact up a _ (fun z => by rw [z, g1] at ea; cases ea) (fun z => by rw [z, g2] at ea; cases ea) ea
      exact ⟨up _ _ (Ne.symm d1) c2 a, ys, up _ _ (fun z => c1 z.symm) (Ne.symm d2) b, flatAll upT c fl⟩
  · rcases List.mem_or_eq_of_mem_set hi with h1 | h1
    · exact h.flat it h1
    · rw [h1]; exact fl'
/-- one item more -/
theorem ItsF.snoc {H0 H H' : Hp} {r : Addr} {its : List (Str × List PyData)} {pl : List (Addr × Addr)} (h : ItsF H0 H r its pl) {p l : Addr} {z : Str} {xs : List V} {ds : List PyData} (np : H p = none) (nl : H l = none) (pl_ : p ≠ l) (np0 : H0 p = none) (nl0 : H0 l = none) (up : ∀ a o, a ≠ r → H a = some o → H' a = some o)
    (hr : H' r = some (.lst ((pl.map fun q => V.ref q.1) ++ [.ref p]))) (hp : H' p = some (.lst [.str z, .ref l])) (hl : H' l = some (.lst xs)) (hd : DqAll H' xs ds) (fl : ds.all flatD = true) : ItsF H0 H' r (its ++ [(z, ds)]) (pl ++ [(p, l)]) := by
  have rp : p ≠ r := fun z => by rw [z, h.hr] at np; cases np
  have rl : l ≠ r := fun z => by rw [z, h.hr] at nl; cases nl
  have upT : ∀ a xs, H a = some (.tup xs) → H' a = some (.tup xs) := fun a xs ea => up a _ (fun z => by rw [z, h.hr] at ea; cases ea) ea
  have old : ∀ q ∈ pl, (∃ o, H q.1 = some o) ∧ ∃ o, H q.2 = some o := fun q hq => by
    obtain ⟨i, ei⟩ := List.getElem?_of_mem hq
    obtain ⟨a, xs, b, _⟩ := h.at_ i q _ ei (List.getElem?_eq_getElem (by rw [← h.len]; exact (List.getElem?_eq_some_iff.mp ei).1))
    exact ⟨⟨_, a⟩, _, b⟩
  have o1 : ∀ q ∈ pl, ∀ b, H b = none → q.1 ≠ b ∧ q.2 ≠ b := fun q hq b nb => ⟨fun z => (by obtain ⟨⟨o, e⟩, _⟩ := old q hq; rw [z, nb] at e; cases e), fun z => (by obtain ⟨_, o, e⟩ := old q hq; rw [z, nb] at e; cases e)⟩
  have mem : ∀ {q}, q ∈ pl ++ [(p, l)] → q ∈ pl ∨ q = (p, l) := fun {q} hq => (List.mem_append.mp hq).imp id List.mem_singleton.mp
  have ix : ∀ {j : Nat} {q}, (pl ++ [(p, l)])[j]? = some q → (j < pl.length ∧ pl[j]? = some q) ∨ (j = pl.length ∧ q = (p, l)) := fun {j q} e => by
    rcases Nat.lt_trichotomy j pl.length with w | w | w
    · rw [List.getElem?_append_left w] at e; exact .inl ⟨w, e⟩
    · rw [List.getElem?_append_right (by omega), w, Nat.sub_self] at e; cases e; exact .inr ⟨w, rfl⟩
    · have := (List.getElem?_eq_some_iff.mp e).1; simp at this; omega
  refine ⟨by rw [List.map_append]; exact hr, by simp [h.len], h.nr, fun q hq => ?_, fun i j q q' ij ei ej => ?_, fun q hq q' hq' => ?_, fun i q it eq_ ei => ?_, fun it hi => ?_⟩
  · rcases mem hq with hq | rfl
    · exact h.new q hq
    · exact ⟨np0, nl0, rp, rl⟩
  · rcases ix ei with ⟨_, ei⟩ | ⟨ai, rfl⟩ <;> rcases ix ej with ⟨_, ej⟩ | ⟨aj, rfl⟩
    · exact h.apart i j q q' ij ei ej
    · exact ⟨(o1 q (List.mem_of_getElem? ei) p np).1, (o1 q (List.mem_of_getElem? ei) l nl).2⟩
    · exact ⟨Ne.symm (o1 q' (List.mem_of_getElem? ej) p np).1, Ne.symm (o1 q' (List.mem_of_getElem? ej) l nl).2⟩
    · omega
  · rcases mem hq with hq | rfl <;> rcases mem hq' with hq' | rfl
    · exact h.cross q hq q' hq'
    · exact (o1 q hq l nl).1
    · exact Ne.symm (o1 q' hq' p np).2
    · exact pl_
  · rcases ix eq_ with ⟨w, eq_⟩ | ⟨w, rfl⟩
    · rw [List.getElem?_append_left (by rw [← h.len]; exact w)] at ei
      obtain ⟨a, ys, b, c⟩ := h.at_ i q it eq_ ei
      obtain ⟨_, _, r1, r2⟩ := h.new q (List.mem_of_getElem? eq_)
      exact ⟨up _ _ r1 a, ys, up _ _ r2 b, flatAll upT c (h.flat it (List.mem_of_getElem? ei))⟩
    · rw [List.getElem?_append_right (by rw [← h.len]; omega), w, h.len, Nat.sub_self] at ei
      cases ei
      exact ⟨hp, xs, hl, hd⟩
  · rcases List.mem_append.mp hi with hi | hi
    · exact h.flat it hi
    · rw [List.mem_singleton.mp hi]; exact fl
end My

set_option Elab.async false
set_option linter.all false
set_option maxRecDepth 100000
set_option maxHeartbeats 4000000
namespace My
open PySem L2 NdefX StX
abbrev s_law_spoilt : Stmt := top 35
theorem sc_law_spoilt : FnScope ["_law_script", "_law_nine", "_law_names_here", "_law_rows_here", "_law_kind", "_law_d", "_law_items", "_law_name", "_law_item", "_law_row", "_law_size", "_law_spot", "_law_pair"] ["_law_script", "_law_nine", "_law_names_here", "_law_rows_here", "_law_kind"] (defScope s_law_spoilt) := ⟨rfl, rfl, rfl, by decide +kernel, rfl, by decide +kernel, by decide +kernel⟩
/-- what holds of the items all the way -/
structure GoodI (its : List (Str × List PyData)) : Prop where
  few : its.length ≤ 7
  nd : (its.map (·.1)).Nodup
  nm : ∀ it ∈ its, nameS it.1 = true
  sz : ∀ it ∈ its, szAll it.2 = true
  len : ∀ it ∈ its, it.2.length ≤ 200
theorem map_set_fst {its : List (Str × List PyData)} {i : Nat} {it : Str × List PyData} {ds' : List PyData} (e : its[i]? = some it) : (its.set i (it.1, ds')).map (·.1) = its.map (·.1) := by
  rw [List.map_set]
  refine List.ext_getElem? fun j => ?_
  by_cases ij : i = j
  · subst ij
    have hi := (List.getElem?_eq_some_iff.mp e).1
    rw [List.getElem?_set_self (by rw [List.length_map]; exact hi), List.getElem?_map, e]; rfl
  · rw [List.getElem?_set_ne ij]
theorem GoodI.set {its : List (Str × List PyData)} (h : GoodI its) {i : Nat} {it : Str × List PyData} {ds' : List PyData} (e : its[i]? = some it) (sz : szAll ds' = true) (l : ds'.length ≤ 200) : GoodI (its.set i (it.1, ds')) := by
  refine ⟨by rw [List.length_set]; exact h.few, by rw [map_set_fst e]; exact h.nd, fun x hx => ?_, fun x hx => ?_, fun x hx => ?_⟩ <;> rcases List.mem_or_eq_of_mem_set hx with g | rfl
  · exact h.nm x g
  · exact h.nm it (List.mem_of_getElem? e)
  · exact h.sz x g
  · exact sz
  · exact h.len x g
  · exact l
def EndI (its : List (Str × List PyData)) : Prop := ItOk its ∧ (its.map (·.1)).Nodup ∧ ∀ it ∈ its, Fit (.str it.1)
theorem GoodI.fin {its : List (Str × List PyData)} (h : GoodI its) : EndI its :=
  ⟨⟨by have := h.few; omega, fun it hi => ⟨name8 (h.nm it hi), h.sz it hi, by have := h.len it hi; omega⟩⟩, h.nd, fun it hi => fit_name (h.nm it hi)⟩
theorem GoodI.ren {its : List (Str × List PyData)} (h : GoodI its) {i : Nat} {it : Str × List PyData} {z' : Str} (e : its[i]? = some it) (no : nameS z' = false) (l : z'.length ≤ 1000) (ft : Fit (.str z')) : EndI (its.set i (z', it.2)) := by
  have ne : ∀ x ∈ its, x.1 ≠ z' := fun x hx w => by have := h.nm x hx; rw [w, no] at this; cases this
  refine ⟨⟨by rw [List.length_set]; have := h.few; omega, fun x hx => ?_⟩, ?_, fun x hx => ?_⟩
  · rcases List.mem_or_eq_of_mem_set hx with g | rfl
    · exact ⟨name8 (h.nm x g), h.sz x g, by have := h.len x g; omega⟩
    · have := List.mem_of_getElem? e
      exact ⟨l, h.sz it this, show it.2.length ≤ 1000 by have := h.len it this; omega⟩
  · rw [List.map_set]
    have nz : z' ∉ its.map (·.1) := fun w => by
      obtain ⟨x, hx, w⟩ := List.mem_map.mp w
      exact ne x hx w
    have hn := h.nd
    revert hn nz
    generalize its.map (·.1) = xs
    intro nz hn
    show (xs.set i z').Nodup
    induction xs generalizing i with
    | nil => exact hn
    | cons a r ih =>
      rw [List.nodup_cons] at hn
      cases i with
      | zero =>
        rw [List.set_cons_zero, List.nodup_cons]
        exact ⟨fun w => nz (List.mem_cons_of_mem _ w), hn.2⟩
      | succ i =>
        rw [List.set_cons_succ, List.nodup_cons]
        refine ⟨fun w => ?_, ?_⟩
        · rcases List.mem_or_eq_of_mem_set w with g | g
          · exact hn.1 g
          · exact nz (by rw [← g]; exact List.mem_cons_self)
        · have : ∀ (ys : List Str) (j : Nat), z' ∉ ys → ys.Nodup → (ys.set j z').Nodup := by
            intro ys
            induction ys with
            | nil => intro j _ h; exact h
            | cons b s ih2 =>
              intro j h1 h2
              rw [List.nodup_cons] at h2
              cases j with
              | zero => rw [List.set_cons_zero, List.nodup_cons]; exact ⟨fun w => h1 (List.mem_cons_of_mem _ w), h2.2⟩
              | succ j =>
                rw [List.set_cons_succ, List.nodup_cons]
                refine ⟨fun w => ?_, ih2 j (fun w => h1 (List.mem_cons_of_mem _ w)) h2.2⟩
                rcases List.mem_or_eq_of_mem_set w with g | g
                · exact h2.1 g
                · exact h1 (by rw [← g]; exact List.mem_cons_self)
          exact this r i (fun w => nz (List.mem_cons_of_mem _ w)) hn.2
  · rcases List.mem_or_eq_of_mem_set hx with g | rfl
    · exact fit_name (h.nm x g)
    · exact ft
end My

set_option Elab.async false
set_option linter.all false
set_option maxRecDepth 100000
set_option maxHeartbeats 4000000
namespace My
open PySem L2 NdefX StX
def bS : List Int := [6, 100, 10, 1000000000000, 6, 6, 9]
structure SpIn (K : PySem.W.Frag) (a n9 nl d : Addr) (k : Int) (ns : List Int) (z9 : List Str) (many m : Nat) (c : Str → Nat → Int × Int) (H : Hp) : Prop where
  sc : Scr K H a ns
  h9 : H n9 = some (.lst (z9.map V.str))
  l9 : z9.length = 9
  nd9 : z9.Nodup
  nm9 : ∀ z ∈ z9, nameS z = true
  hn : H nl = some (.lst ((z9.take many).map V.str))
  mn1 : 1 ≤ many
  mn6 : many ≤ 6
  rw_ : RwOn H d (z9.take many) m c
  m1 : 1 ≤ m
  m100 : m ≤ 100
  k0 : 0 ≤ k
  k14 : k < 14
theorem SpIn.kp {K : PySem.W.Frag} {a n9 nl d : Addr} {k : Int} {ns : List Int} {z9 : List Str} {many m : Nat} {c : Str → Nat → Int × Int} {H H' : Hp} (h : SpIn K a n9 nl d k ns z9 many m c H) (kp : Kp [] H H') : SpIn K a n9 nl d k ns z9 many m c H' :=
  ⟨⟨kp.ls not0 h.sc.1, h.sc.2⟩, kp _ _ not0 h.h9, h.l9, h.nd9, h.nm9, kp _ _ not0 h.hn, h.mn1, h.mn6, h.rw_.kp kp, h.m1, h.m100, h.k0, h.k14⟩
structure DSp (dl : Addr) (ds : List Int) (H : Hp) : Prop where
  hd : H dl = some (.lst (ds.map V.int))
  ok : DrawOk bS ds
theorem DSp.get {K : PySem.W.Frag} {dl : Addr} {ds : List Int} {H : Hp} (h : DSp dl ds H) {i : Nat} (hi : i < 7) {b : Int} (eb : bS[i]? = some b) : ∃ d : Int, SqL K H dl (ds.map V.int) ∧ atI (ds.map V.int) (i : Nat) = some (.int d) ∧ ds[i]? = some d ∧ 0 ≤ d ∧ d < b := by
  have l : i < ds.length := by rw [h.ok.1]; exact hi
  have e : ds[i]? = some ds[i] := List.getElem?_eq_getElem l
  exact ⟨ds[i], sq_l h.hd, atI_of (by omega) (by rw [Int.toNat_natCast, List.getElem?_map, e]; rfl), e, h.ok.2 i _ _ e eb⟩
theorem DSp.kp {dl : Addr} {ds : List Int} {H H' : Hp} (h : DSp dl ds H) (kp : Kp [] H H') : DSp dl ds H' := ⟨kp _ _ not0 h.hd, h.ok⟩
/-- the items as they are before one is spoilt -/
structure BaseI (its : List (Str × List PyData)) : Prop where
  few : its.length ≤ 7
  some_ : 1 ≤ its.length
  nd : (its.map (·.1)).Nodup
  nm : ∀ it ∈ its, nameS it.1 = true
  len : ∀ it ∈ its, 1 ≤ it.2.length ∧ it.2.length ≤ 101
  cel : ∀ it ∈ its, ∀ d ∈ it.2, ∃ p, d = cellD p
theorem szCells : ∀ {ds : List PyData}, (∀ d ∈ ds, ∃ p, d = cellD p) → szAll ds = true ∧ ds.all flatD = true
  | [], _ => ⟨rfl, rfl⟩
  | d :: ds, h => by
    obtain ⟨p, rfl⟩ := h _ List.mem_cons_self
    obtain ⟨a, b⟩ := szCells fun x hx => h x (List.mem_cons_of_mem _ hx)
    refine ⟨?_, ?_⟩
    · show (szD (cellD p) && szAll ds) = true
      rw [a]; rfl
    · rw [List.all_cons, b]; rfl
theorem BaseI.good {its : List (Str × List PyData)} (h : BaseI its) : GoodI its := ⟨h.few, h.nd, h.nm, fun it hi => (szCells (h.cel it hi)).1, fun it hi => by have := (h.len it hi).2; omega⟩
/-- the state behind the items -/
def I1 (K : PySem.W.Frag) (a n9 nl d : Addr) (k : Int) (ns : List Int) (z9 : List Str) (many m : Nat) (c : Str → Nat → Int × Int) (H0 : Hp) (σ : L2.St) (H : Hp) : Prop := ∃ (dl r : Addr) (ds : List Int) (its : List (Str × List PyData)) (pl : List (Addr × Addr)),
  σ = [some (.ref a), some (.ref n9), some (.ref nl), some (.ref d), some (.int k), some (.ref dl), some (.ref r), none, none, none, none, none, none] ∧ DSp dl ds H ∧ SpIn K a n9 nl d k ns z9 many m c H0 ∧ Kp [] H0 H ∧ ItsF H0 H r its pl ∧ BaseI its
/-- the comprehension under way -/
def IB (H0 H1 : Hp) (ys : List Str) (D : Addr) (i : Nat) (H' : Hp) : Prop := ∃ (its : List (Str × List PyData)) (pl : List (Addr × Addr)), ItsF H0 H' D its pl ∧ its.map (·.1) = ys.take i ∧ (∀ it ∈ its, 1 ≤ it.2.length ∧ it.2.length ≤ 101) ∧ (∀ it ∈ its, ∀ d ∈ it.2, ∃ p, d = cellD p) ∧ Kp [] H1 H'
theorem IB.zero {H0 H1 : Hp} {ys : List Str} {D : Addr} (k : Kp [] H0 H1) (nD : H1 D = none) : IB H0 H1 ys D 0 (upd H1 D (.lst [])) :=
  ⟨[], [], ⟨upd_same, rfl, k.free0 nD, (fun _ h => nomatch h), (fun i j q q' _ h => by cases h), (fun _ h => nomatch h), (fun i q it h => by cases h), (fun _ h => nomatch h)⟩, rfl, (fun _ h => nomatch h), (fun _ h => nomatch h), Kp.new nD⟩
theorem IB.snoc {H0 H1 H2 H3 : Hp} {ys : List Str} {D : Addr} {i : Nat} {z : Str} (ez : ys[i]? = some z) (k01 : Kp [] H0 H1) (nD1 : H1 D = none) {its : List (Str × List PyData)} {pl : List (Addr × Addr)} (h : ItsF H0 H2 D its pl) (en : its.map (·.1) = ys.take i) (hl : ∀ it ∈ its, 1 ≤ it.2.length ∧ it.2.length ≤ 101) (hc : ∀ it ∈ its, ∀ d ∈ it.2, ∃ p, d = cellD p) (k12 : Kp [] H1 H2)
    {p l : Addr} {xs : List V} {ds : List PyData} (np : H2 p = none) (nl : H2 l = none) (ne : p ≠ l) (k23 : Kp [] H2 H3) (hD3 : H3 D = some (.lst (pl.map fun q => V.ref q.1))) (hp : H3 p = some (.lst [.str z, .ref l])) (hl3 : H3 l = some (.lst xs)) (hd : DqAll H3 xs ds) (l1 : 1 ≤ ds.length) (l2 : ds.length ≤ 101) (cel : ∀ d ∈ ds, ∃ p, d = cellD p) :
    IB H0 H1 ys D (i + 1) (upd H3 D (.lst ((pl.map fun q => V.ref q.1) ++ [.ref p]))) := by
  have k02 := k01.trans k12
  have nD0 : H0 D = none := k01.free0 nD1
  have pD : p ≠ D := fun w => by rw [w, h.hr] at np; cases np
  have lD : l ≠ D := fun w => by rw [w, h.hr] at nl; cases nl
  have fl := (szCells cel).2
  have upT : ∀ a xs, H3 a = some (.tup xs) → (upd H3 D (.lst ((pl.map fun q => V.ref q.1) ++ [.ref p]))) a = some (.tup xs) := fun a xs ea => by
    have : a ≠ D := fun w => by rw [w, hD3] at ea; cases ea
    rw [upd_ne this]; exact ea
  refine ⟨its ++ [(z, ds)], pl ++ [(p, l)], h.snoc np nl ne (k02.free0 np) (k02.free0 nl) (fun a o ha ea => by rw [upd_ne ha]; exact k23 _ _ not0 ea) upd_same (by rw [upd_ne pD]; exact hp) (by rw [upd_ne lD]; exact hl3) (flatAll upT hd fl) fl, by rw [List.map_append, en, take_snoc ez]; rfl, fun it hi => ?_, fun it hi => ?_, (k12.trans k23).wr nD1⟩
  · rcases List.mem_append.mp hi with hi | hi
    · exact hl it hi
    · rw [List.mem_singleton.mp hi]; exact ⟨l1, l2⟩
  · rcases List.mem_append.mp hi with hi | hi
    · exact hc it hi
    · rw [List.mem_singleton.mp hi]; exact cel
theorem IB.base {H0 H1 H2 : Hp} {ys : List Str} {D : Addr} (h : IB H0 H1 ys D ys.length H2) (nd : ys.Nodup) (nm : ∀ z ∈ ys, nameS z = true) (y1 : 1 ≤ ys.length) (y7 : ys.length ≤ 7) : ∃ its pl, ItsF H0 H2 D its pl ∧ BaseI its ∧ Kp [] H1 H2 := by
  obtain ⟨its, pl, f, en, hl, hc, k⟩ := h
  rw [List.take_length] at en
  have ln : its.length = ys.length := by rw [← en, List.length_map]
  exact ⟨its, pl, f, ⟨by omega, by omega, by rw [en]; exact nd, fun it hi => nm _ (by rw [← en]; exact List.mem_map.mpr ⟨it, hi, rfl⟩), hl, hc⟩, k⟩
structure BtS (mg : Str → Option Value) : Prop where
  b_len : mg "len" = none
  b_list : mg "list" = none
  b_int : mg "int" = none
section
variable {P : Program} {w : World} {K : PySem.W.Frag} {mg : Str → Option Value} {base : Heap}
theorem items_lc {te : TE} {e0 e1 e2 e3 e4 e5 e6 : Option V} {H0 H : Hp} {Q : VK} {ys : List Str} {ya : Addr} (hy : H ya = some (.lst (ys.map V.str))) (k01 : Kp [] H0 H) (y7 : ys.length ≤ 7)
    (row : ∀ (z : Str) (H2 : Hp) (R : VK), z ∈ ys → Kp [] H H2 → (∀ (l : Addr) (xs : List V) (ds : List PyData) (H' : Hp), H2 l = none → H' l = some (.lst xs) → DqAll H' xs ds → 1 ≤ ds.length → ds.length ≤ 101 → (∀ d ∈ ds, ∃ p, d = cellD p) → Kp [] H2 H' → R (.ref l) H') → te [e0, e1, e2, e3, e4, e5, e6, some (.str z), none, none, none, none, none] H2 R)
    (fin : ∀ (D : Addr) (H2 : Hp), IB H0 H ys D ys.length H2 → Q (.ref D) H2) : tLc (iList K (fun _ _ q => q (.ref ya) H)) (gName 7) tYes (tLst (tCons (tVar 7) (tCons te tNil))) [7] [e0, e1, e2, e3, e4, e5, e6, none, none, none, none, none, none] H Q := by
  refine ⟨ya, rfl, ⟨_, sq_l hy⟩, fun D nD => lc_list (K := K) (a := ya) (xs := ys.map V.str) (IB H0 H ys D) (IB.zero k01 nD) (fun i H' _ h => by obtain ⟨_, _, _, _, _, _, k⟩ := h; exact k.ls not0 (sq_l hy)) ?_ ?_⟩
  · rintro i x H2 hx ⟨its, pl, hf, en, hl, hc, k2⟩
    obtain ⟨z, ez, rfl⟩ : ∃ z, ys[i]? = some z ∧ V.str z = x := by
      rw [List.getElem?_map] at hx
      cases e : ys[i]? with
      | none => rw [e] at hx; cases hx
      | some z => rw [e] at hx; exact ⟨z, rfl, Option.some.inj hx⟩
    try simp only [tSeq, tIfS, tTest, tOp, tUn, tCB, tCons, tNil, tVar, tC, rI0, rI, rU, rEq, rNe, tRet, tRetN, tAsg, gName, gSub, tBM, tBM0, tNext, tB, tNot, tAnd, tOr, tIf, tCall, tDrop, tBreak, tCont, L2.start, tDGet, sDPut, tTup, tLst, tDNewK, tRevL, rCat, rAppend, rPop, rSetL, tAndV, tOrV, tNotV, tSl, tPart, tNoPart, tM1, gTup, gCons, gNil, cxK, cxnK, List.map_cons, List.map_nil, List.length_cons, List.length_nil, List.replicate, List.cons_append, List.nil_append, List.append_nil, List.set_cons_zero, List.set_cons_succ, List.getElem?_cons_zero, List.getElem?_cons_succ, Option.some.injEq, V.ref.injEq, V.int.injEq, V.str.injEq, V.bl.injEq, V.ty.injEq, exists_eq_left', exists_eq_left, exists_and_left, List.cons.injEq, and_true, true_and, sc_ii, sc_ss, sc_bb, sc_ni, sc_in, sc_is, sc_si, sc_nn, decide_true, decide_false, reduceCtorEq, Bool.false_eq_true, if_true, if_false, ite_true, ite_false, exists_const, eq_self, false_and, and_false, or_false, false_or, exists_false, Evl.rLenS, rSum, wipe, tYes, exists_eq, exists_eq', rIxL, rIxT, rIxS, exists_and_right, gt_iff_lt, not_true_eq_false, not_false_eq_true, Bool.not_true, Bool.not_false, decide_eq_true_eq, Nat.reduceSub, Nat.reduceAdd, List.append_assoc, tChain, tDIn, tDNotIn, sDDel, tAug, ipI]
    refine row z H2 _ (List.mem_of_getElem? ez) k2 fun l xs ds H3 nl hl3 hd l1 l2 cel k3 => ?_
    refine ⟨by decide, fun p np => ?_⟩
    have kp : Kp [] H3 (upd H3 p (.lst [.str z, .ref l])) := Kp.new np
    have hD4 := (k3.trans kp) _ _ not0 hf.hr
    have pl_len : pl.length ≤ 7 := by
      rw [hf.len]
      have := congrArg List.length en
      rw [List.length_map, List.length_take] at this
      omega
    refine ⟨_, hD4, smallL (by rw [List.length_map]; omega), ?_⟩
    exact IB.snoc ez k01 nD hf en hl hc k2 (k3.free0 np) nl (fun w => by rw [w, hl3] at np; cases np) (k3.trans kp) hD4 upd_same (kp _ _ not0 hl3) (hd.kp kp) l1 l2 cel
  · rintro H2 h
    rw [List.length_map] at h
    try simp only [tSeq, tIfS, tTest, tOp, tUn, tCB, tCons, tNil, tVar, tC, rI0, rI, rU, rEq, rNe, tRet, tRetN, tAsg, gName, gSub, tBM, tBM0, tNext, tB, tNot, tAnd, tOr, tIf, tCall, tDrop, tBreak, tCont, L2.start, tDGet, sDPut, tTup, tLst, tDNewK, tRevL, rCat, rAppend, rPop, rSetL, tAndV, tOrV, tNotV, tSl, tPart, tNoPart, tM1, gTup, gCons, gNil, cxK, cxnK, List.map_cons, List.map_nil, List.length_cons, List.length_nil, List.replicate, List.cons_append, List.nil_append, List.append_nil, List.set_cons_zero, List.set_cons_succ, List.getElem?_cons_zero, List.getElem?_cons_succ, Option.some.injEq, V.ref.injEq, V.int.injEq, V.str.injEq, V.bl.injEq, V.ty.injEq, exists_eq_left', exists_eq_left, exists_and_left, List.cons.injEq, and_true, true_and, sc_ii, sc_ss, sc_bb, sc_ni, sc_in, sc_is, sc_si, sc_nn, decide_true, decide_false, reduceCtorEq, Bool.false_eq_true, if_true, if_false, ite_true, ite_false, exists_const, eq_self, false_and, and_false, or_false, false_or, exists_false, Evl.rLenS, rSum, wipe, tYes, exists_eq, exists_eq', rIxL, rIxT, rIxS, exists_and_right, gt_iff_lt, not_true_eq_false, not_false_eq_true, Bool.not_true, Bool.not_false, decide_eq_true_eq, Nat.reduceSub, Nat.reduceAdd, List.append_assoc, tChain, tDIn, tDNotIn, sDDel, tAug, ipI]
    exact fin D H2 h
theorem sp_p1 (T : BtS mg) {f : Addr} {cdv : Value} {A : Around} {outer : List Env} {s : Shared} {H : Hp} {Q : VK} {E : XK} (hr : Room 3 (A.deeper (PyProof.Rows.envOfC "_law_spoilt" (defScope s_law_spoilt) s.heap.objs.size f cdv)))
    {g1 : Addr} {gd1 : FuncData} (D_law_draws : Df K mg "_law_draws" s_law_draws ["_law_script", "_law_at", "_law_bounds"] g1 gd1) (G_law_draws : FnOk P w K mg base CX0 2 g1 gd1 ["_law_script", "_law_at", "_law_bounds"] (spDraws K))
    {a n9 nl d : Addr} {k : Int} {ns : List Int} {z9 : List Str} {many m : Nat} {c : Str → Nat → Int × Int} (hI : SpIn K a n9 nl d k ns z9 many m c H) {t : TS} (ht : PSs (cxOf CX0 P w K mg base ["_law_script", "_law_nine", "_law_names_here", "_law_rows_here", "_law_kind", "_law_d", "_law_items", "_law_name", "_law_item", "_law_row", "_law_size", "_law_spot", "_law_pair"] "_law_spoilt" (defScope s_law_spoilt) f cdv A outer s H E).nox ((defBody s_law_spoilt).drop 2) t) (hq : ∀ σ H9, I1 K a n9 nl d k ns z9 many m c H σ H9 → t { nx := fun _ H' => Q .non H', rt := Q } σ H9) :
    ∃ t, PSs (cxOf CX0 P w K mg base ["_law_script", "_law_nine", "_law_names_here", "_law_rows_here", "_law_kind", "_law_d", "_law_items", "_law_name", "_law_item", "_law_row", "_law_size", "_law_spot", "_law_pair"] "_law_spoilt" (defScope s_law_spoilt) f cdv A outer s H E).nox (defBody s_law_spoilt) t ∧ t { nx := fun _ H' => Q .non H', rt := Q } [some (.ref a), some (.ref n9), some (.ref nl), some (.ref d), some (.int k), none, none, none, none, none, none, none, none] H := by
  have hu := hu_of hr
  refine ⟨_, (pss_cons (ps_set (i := 5) sc_law_spoilt.nd rfl (Or.inr rfl) (pe_call G_law_draws (hr.mono (by decide)) rfl D_law_draws.g D_law_draws.F.kp D_law_draws.b .nil pass0 (pa_cons (pv 0) (pa_cons pe_int (pa_cons (pe_lst (pa_cons pe_int (pa_cons pe_int (pa_cons pe_int (pa_cons (pe_op op_pow pe_int pe_int) (pa_cons pe_int (pa_cons pe_int (pa_cons pe_int pa_nil)))))))) pa_nil)))))
      (pss_cons (ps_setLc (i := 6) (own := [("_law_name", 7)]) (g := (gName 7)) (tt := tYes) rfl sc_law_spoilt.nd rfl rfl (sw_true rfl rfl rfl (by decide +kernel)) (pi_list (pv 2)) (blkOk_by (N := ["_law_script", "_law_nine", "_law_names_here", "_law_rows_here", "_law_kind", "_law_d", "_law_items", "_law_name", "_law_item", "_law_row", "_law_size", "_law_spot", "_law_pair"]) (sc := defScope s_law_spoilt) (by decide +kernel)) (fun _ _ _ _ _ => (pg_name (i := 7) sc_law_spoilt.nd rfl (Or.inl rfl))) (fun _ _ _ _ _ => pts_nil) (fun _ _ _ _ _ => (pe_lst (pa_cons (pv 7) (pa_cons (pe_callTy (T := "list") (r := rLstOf K) call_list_of (by rfl) T.b_list (by decide +kernel) (pa_cons (pe_dget hu (pv 3) (pv 7) (fun _ _ => rfl)) pa_nil)) pa_nil)))))
      ht)), ?_⟩
  try simp only [tSeq, tIfS, tTest, tOp, tUn, tCB, tCons, tNil, tVar, tC, rI0, rI, rU, rEq, rNe, tRet, tRetN, tAsg, gName, gSub, tBM, tBM0, tNext, tB, tNot, tAnd, tOr, tIf, tCall, tDrop, tBreak, tCont, L2.start, tDGet, sDPut, tTup, tLst, tDNewK, tRevL, rCat, rAppend, rPop, rSetL, tAndV, tOrV, tNotV, tSl, tPart, tNoPart, tM1, gTup, gCons, gNil, cxK, cxnK, List.map_cons, List.map_nil, List.length_cons, List.length_nil, List.replicate, List.cons_append, List.nil_append, List.append_nil, List.set_cons_zero, List.set_cons_succ, List.getElem?_cons_zero, List.getElem?_cons_succ, Option.some.injEq, V.ref.injEq, V.int.injEq, V.str.injEq, V.bl.injEq, V.ty.injEq, exists_eq_left', exists_eq_left, exists_and_left, List.cons.injEq, and_true, true_and, sc_ii, sc_ss, sc_bb, sc_ni, sc_in, sc_is, sc_si, sc_nn, decide_true, decide_false, reduceCtorEq, Bool.false_eq_true, if_true, if_false, ite_true, ite_false, exists_const, eq_self, false_and, and_false, or_false, false_or, exists_false, Evl.rLenS, rSum, wipe, tYes, exists_eq, exists_eq', rIxL, rIxT, rIxS, exists_and_right, gt_iff_lt, not_true_eq_false, not_false_eq_true, Bool.not_true, Bool.not_false, decide_eq_true_eq, Nat.reduceSub, Nat.reduceAdd, List.append_assoc, tChain, tDIn, tDNotIn, sDDel, tAug, ipI]
  have p12 : CPow 10 12 := ⟨by decide, by decide, by decide⟩
  refine ⟨p12, by decide, fun p np => ?_⟩
  have kp : Kp [] H (upd H p (.lst (bS.map V.int))) := Kp.new np
  refine ⟨a, p, 4, ns, bS, rfl, (hI.kp kp).sc, by decide, upd_same, by decide, by decide, fun dl ds H1 ndl hdl hds k1 => ?_⟩
  have k01 := kp.trans k1
  have hI1 := hI.kp k01
  have lz : (z9.take many).length = many := by rw [List.length_take, hI.l9]; have := hI.mn6; omega
  have m1 := hI.mn1
  have m6 := hI.mn6
  refine lcL (fun y H2 => y = nl ∧ H2 = H1) (fun R hR => ?_) (fun y H2 h => ?_)
  · try simp only [tSeq, tIfS, tTest, tOp, tUn, tCB, tCons, tNil, tVar, tC, rI0, rI, rU, rEq, rNe, tRet, tRetN, tAsg, gName, gSub, tBM, tBM0, tNext, tB, tNot, tAnd, tOr, tIf, tCall, tDrop, tBreak, tCont, L2.start, tDGet, sDPut, tTup, tLst, tDNewK, tRevL, rCat, rAppend, rPop, rSetL, tAndV, tOrV, tNotV, tSl, tPart, tNoPart, tM1, gTup, gCons, gNil, cxK, cxnK, List.map_cons, List.map_nil, List.length_cons, List.length_nil, List.replicate, List.cons_append, List.nil_append, List.append_nil, List.set_cons_zero, List.set_cons_succ, List.getElem?_cons_zero, List.getElem?_cons_succ, Option.some.injEq, V.ref.injEq, V.int.injEq, V.str.injEq, V.bl.injEq, V.ty.injEq, exists_eq_left', exists_eq_left, exists_and_left, List.cons.injEq, and_true, true_and, sc_ii, sc_ss, sc_bb, sc_ni, sc_in, sc_is, sc_si, sc_nn, decide_true, decide_false, reduceCtorEq, Bool.false_eq_true, if_true, if_false, ite_true, ite_false, exists_const, eq_self, false_and, and_false, or_false, false_or, exists_false, Evl.rLenS, rSum, wipe, tYes, exists_eq, exists_eq', rIxL, rIxT, rIxS, exists_and_right, gt_iff_lt, not_true_eq_false, not_false_eq_true, Bool.not_true, Bool.not_false, decide_eq_true_eq, Nat.reduceSub, Nat.reduceAdd, List.append_assoc, tChain, tDIn, tDNotIn, sDDel, tAug, ipI]
    exact hR _ _ ⟨rfl, rfl⟩
  obtain ⟨rfl, rfl⟩ := h
  refine items_lc hI1.hn k01 (by omega) (fun z H2 R hz k2 hR => ?_) (fun D H2 h => ?_)
  · obtain ⟨kv, l, xs, hkd, ev, hl, hcl⟩ := (hI1.rw_.kp k2).get (hI.nd9.sublist (List.take_sublist _ _)) hz
    try simp only [tSeq, tIfS, tTest, tOp, tUn, tCB, tCons, tNil, tVar, tC, rI0, rI, rU, rEq, rNe, tRet, tRetN, tAsg, gName, gSub, tBM, tBM0, tNext, tB, tNot, tAnd, tOr, tIf, tCall, tDrop, tBreak, tCont, L2.start, tDGet, sDPut, tTup, tLst, tDNewK, tRevL, rCat, rAppend, rPop, rSetL, tAndV, tOrV, tNotV, tSl, tPart, tNoPart, tM1, gTup, gCons, gNil, cxK, cxnK, List.map_cons, List.map_nil, List.length_cons, List.length_nil, List.replicate, List.cons_append, List.nil_append, List.append_nil, List.set_cons_zero, List.set_cons_succ, List.getElem?_cons_zero, List.getElem?_cons_succ, Option.some.injEq, V.ref.injEq, V.int.injEq, V.str.injEq, V.bl.injEq, V.ty.injEq, exists_eq_left', exists_eq_left, exists_and_left, List.cons.injEq, and_true, true_and, sc_ii, sc_ss, sc_bb, sc_ni, sc_in, sc_is, sc_si, sc_nn, decide_true, decide_false, reduceCtorEq, Bool.false_eq_true, if_true, if_false, ite_true, ite_false, exists_const, eq_self, false_and, and_false, or_false, false_or, exists_false, Evl.rLenS, rSum, wipe, tYes, exists_eq, exists_eq', rIxL, rIxT, rIxS, exists_and_right, gt_iff_lt, not_true_eq_false, not_false_eq_true, Bool.not_true, Bool.not_false, decide_eq_true_eq, Nat.reduceSub, Nat.reduceAdd, List.append_assoc, tChain, tDIn, tDNotIn, sDDel, tAug, ipI]
    refine ⟨.ref l, .inl ⟨kv, Sum.inr z, .inl hkd, rfl, ev.symm⟩, l, xs, rfl, .inl (sq_l hl), fun q nq => ?_⟩
    have kq : Kp [] H2 (upd H2 q (.lst xs)) := Kp.new nq
    refine hR q xs _ _ nq upd_same (hcl.dq.kp kq) (by rw [List.length_map, List.length_range]; exact hI.m1) (by rw [List.length_map, List.length_range]; have := hI.m100; omega) (fun dd hd => ?_) kq
    obtain ⟨i, _, rfl⟩ := List.mem_map.mp hd
    exact ⟨c z i, rfl⟩
  · obtain ⟨its, pl, hf, hb, k2⟩ := h.base (hI.nd9.sublist (List.take_sublist _ _)) (fun z hz => hI.nm9 z (List.mem_of_mem_take hz)) (by omega) (by omega)
    exact hq _ _ ⟨dl, D, ds, its, pl, rfl, ⟨k2 _ _ not0 hdl, hds⟩, hI, k01.trans k2, hf, hb⟩
end
end My

set_option Elab.async false
set_option linter.all false
set_option maxRecDepth 100000
set_option maxHeartbeats 4000000
namespace My
open PySem L2 NdefX StX
section
variable {P : Program} {w : World} {K : PySem.W.Frag} {mg : Str → Option Value} {base : Heap}
theorem reps {v : V} : ∀ n : Nat, (List.replicate n [v]).flatten = List.replicate n v
  | 0 => rfl
  | n + 1 => by rw [List.replicate_succ, List.replicate_succ, List.flatten_cons, reps n]; rfl
theorem dq_rep {H : Hp} {v : V} {d : PyData} (h : Dq H v d) : ∀ n : Nat, DqAll H (List.replicate n v) (List.replicate n d)
  | 0 => .nil
  | n + 1 => .cons h (dq_rep h n)
theorem sp_p2 (T : BtS mg) {f : Addr} {cdv : Value} {A : Around} {outer : List Env} {s : Shared} {H : Hp} {Q : VK} {E : XK} (hr : Room 3 (A.deeper (PyProof.Rows.envOfC "_law_spoilt" (defScope s_law_spoilt) s.heap.objs.size f cdv)))
    {a n9 nl d : Addr} {k : Int} {ns : List Int} {z9 : List Str} {many m : Nat} {c : Str → Nat → Int × Int} {t : TS} (ht : PSs (cxOf CX0 P w K mg base ["_law_script", "_law_nine", "_law_names_here", "_law_rows_here", "_law_kind", "_law_d", "_law_items", "_law_name", "_law_item", "_law_row", "_law_size", "_law_spot", "_law_pair"] "_law_spoilt" (defScope s_law_spoilt) f cdv A outer s H E).nox ((defBody s_law_spoilt).drop 3) t) (hq : ∀ σ H9, I1 K a n9 nl d k ns z9 many m c H σ H9 → t { nx := fun _ H' => Q .non H', rt := Q } σ H9) :
    ∃ t, PSs (cxOf CX0 P w K mg base ["_law_script", "_law_nine", "_law_names_here", "_law_rows_here", "_law_kind", "_law_d", "_law_items", "_law_name", "_law_item", "_law_row", "_law_size", "_law_spot", "_law_pair"] "_law_spoilt" (defScope s_law_spoilt) f cdv A outer s H E).nox ((defBody s_law_spoilt).drop 2) t ∧ ∀ σ H9, I1 K a n9 nl d k ns z9 many m c H σ H9 → t { nx := fun _ H' => Q .non H', rt := Q } σ H9 := by
  have hu := hu_of hr
  refine ⟨_, (pss_cons (ps_if (PW.pt (pw_or (pt_cmpR op_eq (pv 4) pe_int (nomark _)) (pw_or1 (pt_cmpR op_eq (pv 4) pe_int (nomark _))))) (pss_one (ps_setLc (i := 6) (own := [("_law_name", 7)]) (g := (gName 7)) (tt := tYes) rfl sc_law_spoilt.nd rfl rfl (sw_true rfl rfl rfl (by decide +kernel)) (pi_list (pe_slice sl_list (pv 1) po_none (po_some pe_int))) (blkOk_by (N := ["_law_script", "_law_nine", "_law_names_here", "_law_rows_here", "_law_kind", "_law_d", "_law_items", "_law_name", "_law_item", "_law_row", "_law_size", "_law_spot", "_law_pair"]) (sc := defScope s_law_spoilt) (by decide +kernel)) (fun _ _ _ _ _ => (pg_name (i := 7) sc_law_spoilt.nd rfl (Or.inl rfl))) (fun _ _ _ _ _ => pts_nil) (fun _ _ _ _ _ => (pe_lst (pa_cons (pv 7) (pa_cons (pe_callTy (T := "list") (r := rLstOf K) call_list_of (by rfl) T.b_list (by decide +kernel) (pa_cons (pe_dget hu (pv 3) (pe_ix (r := rIxL K) ix_list (pv 2) pe_int (fun _ _ => rfl)) (fun _ _ => rfl)) pa_nil)) pa_nil)))))) pss_nil)
      ht), ?_⟩
  rintro σ H1 hI1
  obtain ⟨dl, r, ds, its, pl, rfl, hds, hI, k1, hf, hb⟩ := id hI1
  have hJ := hI.kp k1
  have m1 := hI.mn1
  have m6 := hI.mn6
  have lz : (z9.take many).length = many := by rw [List.length_take, hI.l9]; omega
  simp only [tSeq]
  refine ifs_both (I1 K a n9 nl d k ns z9 many m c H) (fun Dn hD => ?_) (fun σ' H' hP => hq σ' H' hP)
  have keep : Dn.nx [some (.ref a), some (.ref n9), some (.ref nl), some (.ref d), some (.int k), some (.ref dl), some (.ref r), none, none, none, none, none, none] H1 := hD _ _ hI1
  have l7 : (z9.take 7).length = 7 := by rw [List.length_take, hI.l9]; rfl
  have nd7 : (z9.take 7).Nodup := hI.nd9.sublist (List.take_sublist _ _)
  obtain ⟨z0, ez0⟩ : ∃ z0, (z9.take many)[0]? = some z0 := ⟨_, List.getElem?_eq_getElem (by omega)⟩
  have a0 : atI ((z9.take many).map V.str) 0 = some (.str z0) := atI_of (by decide) (by rw [List.getElem?_map]; exact congrArg (Option.map V.str) ez0)
  have go : tLc (iList K (tSl (rSlL K) (tVar 1) tNoPart (tPart (tC (V.int 7))))) (gName 7) tYes (tLst (tCons (tVar 7) (tCons (tCB (rLstOf K) (tCons (tDGet (tVar 3) (tOp (rIxL K) (tVar 2) (tC (V.int 0)))) tNil)) tNil))) [7] [some (V.ref a), some (V.ref n9), some (V.ref nl), some (V.ref d), some (V.int k), some (V.ref dl), some (V.ref r), none, none, none, none, none, none] H1 fun x H1 => Dn.nx [some (V.ref a), some (V.ref n9), some (V.ref nl), some (V.ref d), some (V.int k), some (V.ref dl), some x, none, none, none, none, none, none] H1 := by
    refine lcL (fun y H2 => H2 y = some (.lst ((z9.take 7).map V.str)) ∧ Kp [] H1 H2) (fun R hR => ?_) (fun y H2 h => ?_)
    · try simp only [tSeq, tIfS, tTest, tOp, tUn, tCB, tCons, tNil, tVar, tC, rI0, rI, rU, rEq, rNe, tRet, tRetN, tAsg, gName, gSub, tBM, tBM0, tNext, tB, tNot, tAnd, tOr, tIf, tCall, tDrop, tBreak, tCont, L2.start, tDGet, sDPut, tTup, tLst, tDNewK, tRevL, rCat, rAppend, rPop, rSetL, tAndV, tOrV, tNotV, tSl, tPart, tNoPart, tM1, gTup, gCons, gNil, cxK, cxnK, List.map_cons, List.map_nil, List.length_cons, List.length_nil, List.replicate, List.cons_append, List.nil_append, List.append_nil, List.set_cons_zero, List.set_cons_succ, List.getElem?_cons_zero, List.getElem?_cons_succ, Option.some.injEq, V.ref.injEq, V.int.injEq, V.str.injEq, V.bl.injEq, V.ty.injEq, exists_eq_left', exists_eq_left, exists_and_left, List.cons.injEq, and_true, true_and, sc_ii, sc_ss, sc_bb, sc_ni, sc_in, sc_is, sc_si, sc_nn, decide_true, decide_false, reduceCtorEq, Bool.false_eq_true, if_true, if_false, ite_true, ite_false, exists_const, eq_self, false_and, and_false, or_false, false_or, exists_false, Evl.rLenS, rSum, wipe, tYes, exists_eq, exists_eq', rIxL, rIxT, rIxS, exists_and_right, gt_iff_lt, not_true_eq_false, not_false_eq_true, Bool.not_true, Bool.not_false, decide_eq_true_eq, Nat.reduceSub, Nat.reduceAdd, List.append_assoc, tChain, tDIn, tDNotIn, sDDel, tAug, ipI]
      refine ⟨n9, _, rfl, sq_l hJ.h9, fun y ny => hR y _ ⟨?_, Kp.new ny⟩⟩
      rw [upd_same, show (some (7 : Int)) = some ((7 : Nat) : Int) from rfl, cut_0j]
    obtain ⟨hy, k2⟩ := h
    have hJ2 := hJ.kp k2
    refine items_lc (H0 := H) hy (k1.trans k2) (by omega) (fun z H3 R hz k3 hR => ?_) (fun D H3 h => ?_)
    · have hJ3 := hJ2.kp k3
      obtain ⟨kv, l, xs, hkd, ev, hl, hcl⟩ := hJ3.rw_.get (hI.nd9.sublist (List.take_sublist _ _)) (List.mem_of_getElem? ez0)
      try simp only [tSeq, tIfS, tTest, tOp, tUn, tCB, tCons, tNil, tVar, tC, rI0, rI, rU, rEq, rNe, tRet, tRetN, tAsg, gName, gSub, tBM, tBM0, tNext, tB, tNot, tAnd, tOr, tIf, tCall, tDrop, tBreak, tCont, L2.start, tDGet, sDPut, tTup, tLst, tDNewK, tRevL, rCat, rAppend, rPop, rSetL, tAndV, tOrV, tNotV, tSl, tPart, tNoPart, tM1, gTup, gCons, gNil, cxK, cxnK, List.map_cons, List.map_nil, List.length_cons, List.length_nil, List.replicate, List.cons_append, List.nil_append, List.append_nil, List.set_cons_zero, List.set_cons_succ, List.getElem?_cons_zero, List.getElem?_cons_succ, Option.some.injEq, V.ref.injEq, V.int.injEq, V.str.injEq, V.bl.injEq, V.ty.injEq, exists_eq_left', exists_eq_left, exists_and_left, List.cons.injEq, and_true, true_and, sc_ii, sc_ss, sc_bb, sc_ni, sc_in, sc_is, sc_si, sc_nn, decide_true, decide_false, reduceCtorEq, Bool.false_eq_true, if_true, if_false, ite_true, ite_false, exists_const, eq_self, false_and, and_false, or_false, false_or, exists_false, Evl.rLenS, rSum, wipe, tYes, exists_eq, exists_eq', rIxL, rIxT, rIxS, exists_and_right, gt_iff_lt, not_true_eq_false, not_false_eq_true, Bool.not_true, Bool.not_false, decide_eq_true_eq, Nat.reduceSub, Nat.reduceAdd, List.append_assoc, tChain, tDIn, tDNotIn, sDDel, tAug, ipI]
      refine ⟨_, sq_l hJ3.hn, _, a0, .ref l, .inl ⟨kv, Sum.inr z0, .inl hkd, rfl, ev.symm⟩, l, xs, rfl, .inl (sq_l hl), fun q nq => ?_⟩
      have kq : Kp [] H3 (upd H3 q (.lst xs)) := Kp.new nq
      refine hR q xs _ _ nq upd_same (hcl.dq.kp kq) (by rw [List.length_map, List.length_range]; exact hI.m1) (by rw [List.length_map, List.length_range]; have := hI.m100; omega) (fun dd hd => ?_) kq
      obtain ⟨i, _, rfl⟩ := List.mem_map.mp hd
      exact ⟨c z0 i, rfl⟩
    · obtain ⟨its, pl, hf, hb, k4⟩ := h.base nd7 (fun z hz => hI.nm9 z (List.mem_of_mem_take hz)) (by omega) (by omega)
      exact hD _ _ ⟨dl, D, ds, its, pl, rfl, hds.kp (k2.trans k4), hI, (k1.trans k2).trans k4, hf, hb⟩
  try simp only [tSeq, tIfS, tTest, tOp, tUn, tCB, tCons, tNil, tVar, tC, rI0, rI, rU, rEq, rNe, tRet, tRetN, tAsg, gName, gSub, tBM, tBM0, tNext, tB, tNot, tAnd, tOr, tIf, tCall, tDrop, tBreak, tCont, L2.start, tDGet, sDPut, tTup, tLst, tDNewK, tRevL, rCat, rAppend, rPop, rSetL, tAndV, tOrV, tNotV, tSl, tPart, tNoPart, tM1, gTup, gCons, gNil, cxK, cxnK, List.map_cons, List.map_nil, List.length_cons, List.length_nil, List.replicate, List.cons_append, List.nil_append, List.append_nil, List.set_cons_zero, List.set_cons_succ, List.getElem?_cons_zero, List.getElem?_cons_succ, Option.some.injEq, V.ref.injEq, V.int.injEq, V.str.injEq, V.bl.injEq, V.ty.injEq, exists_eq_left', exists_eq_left, exists_and_left, List.cons.injEq, and_true, true_and, sc_ii, sc_ss, sc_bb, sc_ni, sc_in, sc_is, sc_si, sc_nn, decide_true, decide_false, reduceCtorEq, Bool.false_eq_true, if_true, if_false, ite_true, ite_false, exists_const, eq_self, false_and, and_false, or_false, false_or, exists_false, Evl.rLenS, rSum, wipe, tYes, exists_eq, exists_eq', rIxL, rIxT, rIxS, exists_and_right, gt_iff_lt, not_true_eq_false, not_false_eq_true, Bool.not_true, Bool.not_false, decide_eq_true_eq, Nat.reduceSub, Nat.reduceAdd, List.append_assoc, tChain, tDIn, tDNotIn, sDDel, tAug, ipI]
  exact ite2 (fun _ => go) (fun _ => ite2 (fun _ => go) (fun _ => keep))
theorem sp_p3 (T : BtS mg) {f : Addr} {cdv : Value} {A : Around} {outer : List Env} {s : Shared} {H : Hp} {Q : VK} {E : XK} (hr : Room 3 (A.deeper (PyProof.Rows.envOfC "_law_spoilt" (defScope s_law_spoilt) s.heap.objs.size f cdv)))
    {a n9 nl d : Addr} {k : Int} {ns : List Int} {z9 : List Str} {many m : Nat} {c : Str → Nat → Int × Int} {t : TS} (ht : PSs (cxOf CX0 P w K mg base ["_law_script", "_law_nine", "_law_names_here", "_law_rows_here", "_law_kind", "_law_d", "_law_items", "_law_name", "_law_item", "_law_row", "_law_size", "_law_spot", "_law_pair"] "_law_spoilt" (defScope s_law_spoilt) f cdv A outer s H E).nox ((defBody s_law_spoilt).drop 4) t) (hq : ∀ σ H9, I1 K a n9 nl d k ns z9 many m c H σ H9 → t { nx := fun _ H' => Q .non H', rt := Q } σ H9) :
    ∃ t, PSs (cxOf CX0 P w K mg base ["_law_script", "_law_nine", "_law_names_here", "_law_rows_here", "_law_kind", "_law_d", "_law_items", "_law_name", "_law_item", "_law_row", "_law_size", "_law_spot", "_law_pair"] "_law_spoilt" (defScope s_law_spoilt) f cdv A outer s H E).nox ((defBody s_law_spoilt).drop 3) t ∧ ∀ σ H9, I1 K a n9 nl d k ns z9 many m c H σ H9 → t { nx := fun _ H' => Q .non H', rt := Q } σ H9 := by
  have hu := hu_of hr
  refine ⟨_, (pss_cons (ps_if (pt_cmpR op_eq (pv 4) pe_int (nomark _)) (pss_one (ps_setLc (i := 6) (own := [("_law_name", 7)]) (g := (gName 7)) (tt := tYes) rfl sc_law_spoilt.nd rfl rfl (sw_true rfl rfl rfl (by decide +kernel)) (pi_list (pv 2)) (blkOk_by (N := ["_law_script", "_law_nine", "_law_names_here", "_law_rows_here", "_law_kind", "_law_d", "_law_items", "_law_name", "_law_item", "_law_row", "_law_size", "_law_spot", "_law_pair"]) (sc := defScope s_law_spoilt) (by decide +kernel)) (fun _ _ _ _ _ => (pg_name (i := 7) sc_law_spoilt.nd rfl (Or.inl rfl))) (fun _ _ _ _ _ => pts_nil) (fun _ _ _ _ _ => (pe_lst (pa_cons (pv 7) (pa_cons (pe_op op_rep (pe_lst (pa_cons (pe_tup (pa_cons (pe_ix (r := rIxL K) ix_list (pv 5) pe_int (fun _ _ => rfl)) (pa_cons pe_int pa_nil))) pa_nil)) pe_int) pa_nil)))))) pss_nil)
      ht), ?_⟩
  rintro σ H1 hI1
  obtain ⟨dl, r, ds, its, pl, rfl, hds, hI, k1, hf, hb⟩ := id hI1
  have hJ := hI.kp k1
  have m1 := hI.mn1
  have m6 := hI.mn6
  have lz : (z9.take many).length = many := by rw [List.length_take, hI.l9]; omega
  simp only [tSeq]
  refine ifs_both (I1 K a n9 nl d k ns z9 many m c H) (fun Dn hD => ?_) (fun σ' H' hP => hq σ' H' hP)
  obtain ⟨d2, hsq, a2, e2, b2, c2⟩ := hds.get (i := 2) (by decide) rfl
  try simp only [tSeq, tIfS, tTest, tOp, tUn, tCB, tCons, tNil, tVar, tC, rI0, rI, rU, rEq, rNe, tRet, tRetN, tAsg, gName, gSub, tBM, tBM0, tNext, tB, tNot, tAnd, tOr, tIf, tCall, tDrop, tBreak, tCont, L2.start, tDGet, sDPut, tTup, tLst, tDNewK, tRevL, rCat, rAppend, rPop, rSetL, tAndV, tOrV, tNotV, tSl, tPart, tNoPart, tM1, gTup, gCons, gNil, cxK, cxnK, List.map_cons, List.map_nil, List.length_cons, List.length_nil, List.replicate, List.cons_append, List.nil_append, List.append_nil, List.set_cons_zero, List.set_cons_succ, List.getElem?_cons_zero, List.getElem?_cons_succ, Option.some.injEq, V.ref.injEq, V.int.injEq, V.str.injEq, V.bl.injEq, V.ty.injEq, exists_eq_left', exists_eq_left, exists_and_left, List.cons.injEq, and_true, true_and, sc_ii, sc_ss, sc_bb, sc_ni, sc_in, sc_is, sc_si, sc_nn, decide_true, decide_false, reduceCtorEq, Bool.false_eq_true, if_true, if_false, ite_true, ite_false, exists_const, eq_self, false_and, and_false, or_false, false_or, exists_false, Evl.rLenS, rSum, wipe, tYes, exists_eq, exists_eq', rIxL, rIxT, rIxS, exists_and_right, gt_iff_lt, not_true_eq_false, not_false_eq_true, Bool.not_true, Bool.not_false, decide_eq_true_eq, Nat.reduceSub, Nat.reduceAdd, List.append_assoc, tChain, tDIn, tDNotIn, sDDel, tAug, ipI]
  refine ite2 (fun _ => ?_) (fun _ => hD _ _ hI1)
  refine lcL (fun y H2 => y = nl ∧ H2 = H1) (fun R hR => ?_) (fun y H2 h => ?_)
  · try simp only [tSeq, tIfS, tTest, tOp, tUn, tCB, tCons, tNil, tVar, tC, rI0, rI, rU, rEq, rNe, tRet, tRetN, tAsg, gName, gSub, tBM, tBM0, tNext, tB, tNot, tAnd, tOr, tIf, tCall, tDrop, tBreak, tCont, L2.start, tDGet, sDPut, tTup, tLst, tDNewK, tRevL, rCat, rAppend, rPop, rSetL, tAndV, tOrV, tNotV, tSl, tPart, tNoPart, tM1, gTup, gCons, gNil, cxK, cxnK, List.map_cons, List.map_nil, List.length_cons, List.length_nil, List.replicate, List.cons_append, List.nil_append, List.append_nil, List.set_cons_zero, List.set_cons_succ, List.getElem?_cons_zero, List.getElem?_cons_succ, Option.some.injEq, V.ref.injEq, V.int.injEq, V.str.injEq, V.bl.injEq, V.ty.injEq, exists_eq_left', exists_eq_left, exists_and_left, List.cons.injEq, and_true, true_and, sc_ii, sc_ss, sc_bb, sc_ni, sc_in, sc_is, sc_si, sc_nn, decide_true, decide_false, reduceCtorEq, Bool.false_eq_true, if_true, if_false, ite_true, ite_false, exists_const, eq_self, false_and, and_false, or_false, false_or, exists_false, Evl.rLenS, rSum, wipe, tYes, exists_eq, exists_eq', rIxL, rIxT, rIxS, exists_and_right, gt_iff_lt, not_true_eq_false, not_false_eq_true, Bool.not_true, Bool.not_false, decide_eq_true_eq, Nat.reduceSub, Nat.reduceAdd, List.append_assoc, tChain, tDIn, tDNotIn, sDDel, tAug, ipI]
    exact hR _ _ ⟨rfl, rfl⟩
  obtain ⟨rfl, rfl⟩ := h
  refine items_lc (H0 := H) hJ.hn k1 (by omega) (fun z H2 R hz k2 hR => ?_) (fun D H2 h => ?_)
  · try simp only [tSeq, tIfS, tTest, tOp, tUn, tCB, tCons, tNil, tVar, tC, rI0, rI, rU, rEq, rNe, tRet, tRetN, tAsg, gName, gSub, tBM, tBM0, tNext, tB, tNot, tAnd, tOr, tIf, tCall, tDrop, tBreak, tCont, L2.start, tDGet, sDPut, tTup, tLst, tDNewK, tRevL, rCat, rAppend, rPop, rSetL, tAndV, tOrV, tNotV, tSl, tPart, tNoPart, tM1, gTup, gCons, gNil, cxK, cxnK, List.map_cons, List.map_nil, List.length_cons, List.length_nil, List.replicate, List.cons_append, List.nil_append, List.append_nil, List.set_cons_zero, List.set_cons_succ, List.getElem?_cons_zero, List.getElem?_cons_succ, Option.some.injEq, V.ref.injEq, V.int.injEq, V.str.injEq, V.bl.injEq, V.ty.injEq, exists_eq_left', exists_eq_left, exists_and_left, List.cons.injEq, and_true, true_and, sc_ii, sc_ss, sc_bb, sc_ni, sc_in, sc_is, sc_si, sc_nn, decide_true, decide_false, reduceCtorEq, Bool.false_eq_true, if_true, if_false, ite_true, ite_false, exists_const, eq_self, false_and, and_false, or_false, false_or, exists_false, Evl.rLenS, rSum, wipe, tYes, exists_eq, exists_eq', rIxL, rIxT, rIxS, exists_and_right, gt_iff_lt, not_true_eq_false, not_false_eq_true, Bool.not_true, Bool.not_false, decide_eq_true_eq, Nat.reduceSub, Nat.reduceAdd, List.append_assoc, tChain, tDIn, tDNotIn, sDDel, tAug, ipI, rRep]
    refine ⟨_, k2.ls not0 hsq, _, a2, by decide, fun q0 nq0 => ⟨by decide, fun q1 nq1 => ⟨_, upd_same, by decide, by decide, (show 1 * 101 ≤ sizeLine by decide), fun q2 nq2 => ?_⟩⟩⟩
    have h0 : (upd H2 q0 (.tup [.int d2, .int 0])) q0 = some (.tup [.int d2, .int 0]) := upd_same
    have kq0 : Kp [] H2 (upd H2 q0 (.tup [.int d2, .int 0])) := Kp.new nq0
    generalize (upd H2 q0 (.tup [.int d2, .int 0])) = H3 at nq1 nq2 h0 kq0 ⊢
    have kq1 : Kp [] H3 (upd (upd H3 q1 (.lst [.ref q0])) q2 (.lst (List.replicate (Int.toNat 101) [V.ref q0]).flatten)) := (Kp.new nq1).trans (Kp.new nq2)
    refine hR q2 (List.replicate 101 (.ref q0)) (List.replicate 101 (cellD (d2, 0))) _ ((kq0.trans (Kp.new nq1)).free0 nq2) ?_ (dq_rep (.tup (kq1 _ _ not0 h0) (.cons (.int _) (.cons (.int _) .nil))) 101) (by rw [List.length_replicate]; decide) (by rw [List.length_replicate]; decide) (fun dd hd => ⟨(d2, 0), (List.mem_replicate.mp hd).2⟩) (kq0.trans kq1)
    rw [upd_same, reps]; rfl
  · obtain ⟨its, pl, hf, hb, k4⟩ := h.base (hI.nd9.sublist (List.take_sublist _ _)) (fun z hz => hI.nm9 z (List.mem_of_mem_take hz)) (by omega) (by omega)
    exact hD _ _ ⟨dl, D, ds, its, pl, rfl, hds.kp k4, hI, k1.trans k4, hf, hb⟩
theorem sp_p4 (T : BtS mg) {f : Addr} {cdv : Value} {A : Around} {outer : List Env} {s : Shared} {H : Hp} {Q : VK} {E : XK} (hr : Room 3 (A.deeper (PyProof.Rows.envOfC "_law_spoilt" (defScope s_law_spoilt) s.heap.objs.size f cdv)))
    {a n9 nl d : Addr} {k : Int} {ns : List Int} {z9 : List Str} {many m : Nat} {c : Str → Nat → Int × Int} {t : TS} (ht : PSs (cxOf CX0 P w K mg base ["_law_script", "_law_nine", "_law_names_here", "_law_rows_here", "_law_kind", "_law_d", "_law_items", "_law_name", "_law_item", "_law_row", "_law_size", "_law_spot", "_law_pair"] "_law_spoilt" (defScope s_law_spoilt) f cdv A outer s H E).nox ((defBody s_law_spoilt).drop 5) t) (hq : ∀ σ H9, I1 K a n9 nl d k ns z9 many m c H σ H9 → t { nx := fun _ H' => Q .non H', rt := Q } σ H9) :
    ∃ t, PSs (cxOf CX0 P w K mg base ["_law_script", "_law_nine", "_law_names_here", "_law_rows_here", "_law_kind", "_law_d", "_law_items", "_law_name", "_law_item", "_law_row", "_law_size", "_law_spot", "_law_pair"] "_law_spoilt" (defScope s_law_spoilt) f cdv A outer s H E).nox ((defBody s_law_spoilt).drop 4) t ∧ ∀ σ H9, I1 K a n9 nl d k ns z9 many m c H σ H9 → t { nx := fun _ H' => Q .non H', rt := Q } σ H9 := by
  have hu := hu_of hr
  refine ⟨_, (pss_cons (ps_if (pt_cmpR op_eq (pv 4) pe_int (nomark _)) (pss_one (ps_setLc (i := 6) (own := [("_law_name", 7)]) (g := (gName 7)) (tt := tYes) rfl sc_law_spoilt.nd rfl rfl (sw_true rfl rfl rfl (by decide +kernel)) (pi_list (pe_slice sl_list (pv 1) po_none (po_some pe_int))) (blkOk_by (N := ["_law_script", "_law_nine", "_law_names_here", "_law_rows_here", "_law_kind", "_law_d", "_law_items", "_law_name", "_law_item", "_law_row", "_law_size", "_law_spot", "_law_pair"]) (sc := defScope s_law_spoilt) (by decide +kernel)) (fun _ _ _ _ _ => (pg_name (i := 7) sc_law_spoilt.nd rfl (Or.inl rfl))) (fun _ _ _ _ _ => pts_nil) (fun _ _ _ _ _ => (pe_lst (pa_cons (pv 7) (pa_cons (pe_op op_rep (pe_lst (pa_cons (pe_tup (pa_cons (pe_ix (r := rIxL K) ix_list (pv 5) pe_int (fun _ _ => rfl)) (pa_cons pe_int pa_nil))) pa_nil)) pe_int) pa_nil)))))) pss_nil)
      ht), ?_⟩
  rintro σ H1 hI1
  obtain ⟨dl, r, ds, its, pl, rfl, hds, hI, k1, hf, hb⟩ := id hI1
  have hJ := hI.kp k1
  have m1 := hI.mn1
  have m6 := hI.mn6
  have lz : (z9.take many).length = many := by rw [List.length_take, hI.l9]; omega
  simp only [tSeq]
  refine ifs_both (I1 K a n9 nl d k ns z9 many m c H) (fun Dn hD => ?_) (fun σ' H' hP => hq σ' H' hP)
  obtain ⟨d2, hsq, a2, e2, b2, c2⟩ := hds.get (i := 2) (by decide) rfl
  have l6 : (z9.take 6).length = 6 := by rw [List.length_take, hI.l9]; rfl
  try simp only [tSeq, tIfS, tTest, tOp, tUn, tCB, tCons, tNil, tVar, tC, rI0, rI, rU, rEq, rNe, tRet, tRetN, tAsg, gName, gSub, tBM, tBM0, tNext, tB, tNot, tAnd, tOr, tIf, tCall, tDrop, tBreak, tCont, L2.start, tDGet, sDPut, tTup, tLst, tDNewK, tRevL, rCat, rAppend, rPop, rSetL, tAndV, tOrV, tNotV, tSl, tPart, tNoPart, tM1, gTup, gCons, gNil, cxK, cxnK, List.map_cons, List.map_nil, List.length_cons, List.length_nil, List.replicate, List.cons_append, List.nil_append, List.append_nil, List.set_cons_zero, List.set_cons_succ, List.getElem?_cons_zero, List.getElem?_cons_succ, Option.some.injEq, V.ref.injEq, V.int.injEq, V.str.injEq, V.bl.injEq, V.ty.injEq, exists_eq_left', exists_eq_left, exists_and_left, List.cons.injEq, and_true, true_and, sc_ii, sc_ss, sc_bb, sc_ni, sc_in, sc_is, sc_si, sc_nn, decide_true, decide_false, reduceCtorEq, Bool.false_eq_true, if_true, if_false, ite_true, ite_false, exists_const, eq_self, false_and, and_false, or_false, false_or, exists_false, Evl.rLenS, rSum, wipe, tYes, exists_eq, exists_eq', rIxL, rIxT, rIxS, exists_and_right, gt_iff_lt, not_true_eq_false, not_false_eq_true, Bool.not_true, Bool.not_false, decide_eq_true_eq, Nat.reduceSub, Nat.reduceAdd, List.append_assoc, tChain, tDIn, tDNotIn, sDDel, tAug, ipI]
  refine ite2 (fun _ => ?_) (fun _ => hD _ _ hI1)
  refine lcL (fun y H2 => H2 y = some (.lst ((z9.take 6).map V.str)) ∧ Kp [] H1 H2) (fun R hR => ?_) (fun y H2 h => ?_)
  · try simp only [tSeq, tIfS, tTest, tOp, tUn, tCB, tCons, tNil, tVar, tC, rI0, rI, rU, rEq, rNe, tRet, tRetN, tAsg, gName, gSub, tBM, tBM0, tNext, tB, tNot, tAnd, tOr, tIf, tCall, tDrop, tBreak, tCont, L2.start, tDGet, sDPut, tTup, tLst, tDNewK, tRevL, rCat, rAppend, rPop, rSetL, tAndV, tOrV, tNotV, tSl, tPart, tNoPart, tM1, gTup, gCons, gNil, cxK, cxnK, List.map_cons, List.map_nil, List.length_cons, List.length_nil, List.replicate, List.cons_append, List.nil_append, List.append_nil, List.set_cons_zero, List.set_cons_succ, List.getElem?_cons_zero, List.getElem?_cons_succ, Option.some.injEq, V.ref.injEq, V.int.injEq, V.str.injEq, V.bl.injEq, V.ty.injEq, exists_eq_left', exists_eq_left, exists_and_left, List.cons.injEq, and_true, true_and, sc_ii, sc_ss, sc_bb, sc_ni, sc_in, sc_is, sc_si, sc_nn, decide_true, decide_false, reduceCtorEq, Bool.false_eq_true, if_true, if_false, ite_true, ite_false, exists_const, eq_self, false_and, and_false, or_false, false_or, exists_false, Evl.rLenS, rSum, wipe, tYes, exists_eq, exists_eq', rIxL, rIxT, rIxS, exists_and_right, gt_iff_lt, not_true_eq_false, not_false_eq_true, Bool.not_true, Bool.not_false, decide_eq_true_eq, Nat.reduceSub, Nat.reduceAdd, List.append_assoc, tChain, tDIn, tDNotIn, sDDel, tAug, ipI]
    refine ⟨n9, _, rfl, sq_l hJ.h9, fun y ny => hR y _ ⟨?_, Kp.new ny⟩⟩
    rw [upd_same, show (some (6 : Int)) = some ((6 : Nat) : Int) from rfl, cut_0j]
  obtain ⟨hy, k0⟩ := h
  refine items_lc (H0 := H) hy (k1.trans k0) (by omega) (fun z H2 R hz k2 hR => ?_) (fun D H2 h => ?_)
  · try simp only [tSeq, tIfS, tTest, tOp, tUn, tCB, tCons, tNil, tVar, tC, rI0, rI, rU, rEq, rNe, tRet, tRetN, tAsg, gName, gSub, tBM, tBM0, tNext, tB, tNot, tAnd, tOr, tIf, tCall, tDrop, tBreak, tCont, L2.start, tDGet, sDPut, tTup, tLst, tDNewK, tRevL, rCat, rAppend, rPop, rSetL, tAndV, tOrV, tNotV, tSl, tPart, tNoPart, tM1, gTup, gCons, gNil, cxK, cxnK, List.map_cons, List.map_nil, List.length_cons, List.length_nil, List.replicate, List.cons_append, List.nil_append, List.append_nil, List.set_cons_zero, List.set_cons_succ, List.getElem?_cons_zero, List.getElem?_cons_succ, Option.some.injEq, V.ref.injEq, V.int.injEq, V.str.injEq, V.bl.injEq, V.ty.injEq, exists_eq_left', exists_eq_left, exists_and_left, List.cons.injEq, and_true, true_and, sc_ii, sc_ss, sc_bb, sc_ni, sc_in, sc_is, sc_si, sc_nn, decide_true, decide_false, reduceCtorEq, Bool.false_eq_true, if_true, if_false, ite_true, ite_false, exists_const, eq_self, false_and, and_false, or_false, false_or, exists_false, Evl.rLenS, rSum, wipe, tYes, exists_eq, exists_eq', rIxL, rIxT, rIxS, exists_and_right, gt_iff_lt, not_true_eq_false, not_false_eq_true, Bool.not_true, Bool.not_false, decide_eq_true_eq, Nat.reduceSub, Nat.reduceAdd, List.append_assoc, tChain, tDIn, tDNotIn, sDDel, tAug, ipI, rRep]
    refine ⟨_, (k0.trans k2).ls not0 hsq, _, a2, by decide, fun q0 nq0 => ⟨by decide, fun q1 nq1 => ⟨_, upd_same, by decide, by decide, (show 1 * 100 ≤ sizeLine by decide), fun q2 nq2 => ?_⟩⟩⟩
    have h0 : (upd H2 q0 (.tup [.int d2, .int 99])) q0 = some (.tup [.int d2, .int 99]) := upd_same
    have kq0 : Kp [] H2 (upd H2 q0 (.tup [.int d2, .int 99])) := Kp.new nq0
    generalize (upd H2 q0 (.tup [.int d2, .int 99])) = H3 at nq1 nq2 h0 kq0 ⊢
    have kq1 : Kp [] H3 (upd (upd H3 q1 (.lst [.ref q0])) q2 (.lst (List.replicate (Int.toNat 100) [V.ref q0]).flatten)) := (Kp.new nq1).trans (Kp.new nq2)
    refine hR q2 (List.replicate 100 (.ref q0)) (List.replicate 100 (cellD (d2, 99))) _ ((kq0.trans (Kp.new nq1)).free0 nq2) ?_ (dq_rep (.tup (kq1 _ _ not0 h0) (.cons (.int _) (.cons (.int _) .nil))) 100) (by rw [List.length_replicate]; decide) (by rw [List.length_replicate]; decide) (fun dd hd => ⟨(d2, 99), (List.mem_replicate.mp hd).2⟩) (kq0.trans kq1)
    rw [upd_same, reps]; rfl
  · obtain ⟨its, pl, hf, hb, k4⟩ := h.base (hI.nd9.sublist (List.take_sublist _ _)) (fun z hz => hI.nm9 z (List.mem_of_mem_take hz)) (by omega) (by omega)
    exact hD _ _ ⟨dl, D, ds, its, pl, rfl, hds.kp (k0.trans k4), hI, (k1.trans k0).trans k4, hf, hb⟩
end
end My

set_option Elab.async false
set_option linter.all false
set_option maxRecDepth 100000
set_option maxHeartbeats 4000000
namespace My
open PySem L2 NdefX StX
def I5 (K : PySem.W.Frag) (a n9 nl d : Addr) (k : Int) (H0 : Hp) (σ : L2.St) (H : Hp) : Prop := ∃ (dl r : Addr) (ds : List Int) (its : List (Str × List PyData)) (pl : List (Addr × Addr)) (i : Nat) (p l : Addr) (it : Str × List PyData) (xs : List V) (sp : Nat) (q : Addr) (u v : Int),
  σ = [some (.ref a), some (.ref n9), some (.ref nl), some (.ref d), some (.int k), some (.ref dl), some (.ref r), none, some (.ref p), some (.ref l), some (.int (it.2.length : Nat)), some (.int (sp : Nat)), some (.ref q)] ∧ DSp dl ds H ∧ Kp [] H0 H ∧ ItsF H0 H r its pl ∧ BaseI its ∧
  pl[i]? = some (p, l) ∧ its[i]? = some it ∧ H p = some (.lst [.str it.1, .ref l]) ∧ H l = some (.lst xs) ∧ DqAll H xs it.2 ∧ sp < it.2.length ∧ xs[sp]? = some (.ref q) ∧ H q = some (.tup [.int u, .int v])
def EndQ (H : Hp) (Q : VK) : Prop := ∀ (r : Addr) (its : List (Str × List PyData)) (H' : Hp), H r = none → Items H' r its → EndI its → Kp [] H H' → Q (.ref r) H'
section
variable {P : Program} {w : World} {K : PySem.W.Frag} {mg : Str → Option Value} {base : Heap}
theorem sp_p5 (T : BtS mg) {f : Addr} {cdv : Value} {A : Around} {outer : List Env} {s : Shared} {H : Hp} {Q : VK} {E : XK} (hr : Room 3 (A.deeper (PyProof.Rows.envOfC "_law_spoilt" (defScope s_law_spoilt) s.heap.objs.size f cdv)))
    {a n9 nl d : Addr} {k : Int} {ns : List Int} {z9 : List Str} {many m : Nat} {c : Str → Nat → Int × Int} (qe : EndQ H Q) {t : TS} (ht : PSs (cxOf CX0 P w K mg base ["_law_script", "_law_nine", "_law_names_here", "_law_rows_here", "_law_kind", "_law_d", "_law_items", "_law_name", "_law_item", "_law_row", "_law_size", "_law_spot", "_law_pair"] "_law_spoilt" (defScope s_law_spoilt) f cdv A outer s H E).nox ((defBody s_law_spoilt).drop 11) t) (hq : ∀ σ H9, I5 K a n9 nl d k H σ H9 → t { nx := fun _ H' => Q .non H', rt := Q } σ H9) :
    ∃ t, PSs (cxOf CX0 P w K mg base ["_law_script", "_law_nine", "_law_names_here", "_law_rows_here", "_law_kind", "_law_d", "_law_items", "_law_name", "_law_item", "_law_row", "_law_size", "_law_spot", "_law_pair"] "_law_spoilt" (defScope s_law_spoilt) f cdv A outer s H E).nox ((defBody s_law_spoilt).drop 5) t ∧ ∀ σ H9, I1 K a n9 nl d k ns z9 many m c H σ H9 → t { nx := fun _ H' => Q .non H', rt := Q } σ H9 := by
  have hu := hu_of hr
  refine ⟨_, (pss_cons (ps_if (pt_cmpR op_eq (pv 4) pe_int (nomark _)) (pss_one (ps_ret (pe_lst pa_nil))) pss_nil)
      (pss_cons (ps_set (i := 8) sc_law_spoilt.nd rfl (Or.inl rfl) (pe_ix (r := rIxL K) ix_list (pv 6) (pe_op op_mod (pe_callTy (T := "int") call_int1 (by rfl) T.b_int (by decide +kernel) (pa_cons (pe_ix (r := rIxL K) ix_list (pv 5) pe_int (fun _ _ => rfl)) pa_nil)) (pe_callB (id := "len") (r := Evl.rLenS K) call_len_seq (by rfl) T.b_len PySem.boot_len (pa_cons (pv 6) pa_nil))) (fun _ _ => rfl)))
      (pss_cons (ps_set (i := 9) sc_law_spoilt.nd rfl (Or.inl rfl) (pe_ix (r := rIxL K) ix_list (pv 8) pe_int (fun _ _ => rfl)))
      (pss_cons (ps_set (i := 10) sc_law_spoilt.nd rfl (Or.inl rfl) (pe_callB (id := "len") (r := Evl.rLenS K) call_len_seq (by rfl) T.b_len PySem.boot_len (pa_cons (pv 9) pa_nil)))
      (pss_cons (ps_set (i := 11) sc_law_spoilt.nd rfl (Or.inl rfl) (pe_op op_mod (pe_callTy (T := "int") call_int1 (by rfl) T.b_int (by decide +kernel) (pa_cons (pe_ix (r := rIxL K) ix_list (pv 5) pe_int (fun _ _ => rfl)) pa_nil)) (pv 10)))
      (pss_cons (ps_set (i := 12) sc_law_spoilt.nd rfl (Or.inl rfl) (pe_ix (r := rIxL K) ix_list (pv 9) (pv 11) (fun _ _ => rfl)))
      ht)))))), ?_⟩
  rintro σ H1 ⟨dl, r, ds, its, pl, rfl, hds, hI, k1, hf, hb⟩
  try simp only [tSeq, tIfS, tTest, tOp, tUn, tCB, tCons, tNil, tVar, tC, rI0, rI, rU, rEq, rNe, tRet, tRetN, tAsg, gName, gSub, tBM, tBM0, tNext, tB, tNot, tAnd, tOr, tIf, tCall, tDrop, tBreak, tCont, L2.start, tDGet, sDPut, tTup, tLst, tDNewK, tRevL, rCat, rAppend, rPop, rSetL, tAndV, tOrV, tNotV, tSl, tPart, tNoPart, tM1, gTup, gCons, gNil, cxK, cxnK, List.map_cons, List.map_nil, List.length_cons, List.length_nil, List.replicate, List.cons_append, List.nil_append, List.append_nil, List.set_cons_zero, List.set_cons_succ, List.getElem?_cons_zero, List.getElem?_cons_succ, Option.some.injEq, V.ref.injEq, V.int.injEq, V.str.injEq, V.bl.injEq, V.ty.injEq, exists_eq_left', exists_eq_left, exists_and_left, List.cons.injEq, and_true, true_and, sc_ii, sc_ss, sc_bb, sc_ni, sc_in, sc_is, sc_si, sc_nn, decide_true, decide_false, reduceCtorEq, Bool.false_eq_true, if_true, if_false, ite_true, ite_false, exists_const, eq_self, false_and, and_false, or_false, false_or, exists_false, Evl.rLenS, rSum, wipe, tYes, exists_eq, exists_eq', rIxL, rIxT, rIxS, exists_and_right, gt_iff_lt, not_true_eq_false, not_false_eq_true, Bool.not_true, Bool.not_false, decide_eq_true_eq, Nat.reduceSub, Nat.reduceAdd, List.append_assoc, tChain, tDIn, tDNotIn, sDDel, tAug, ipI]
  refine ite2 (fun _ => ⟨by decide, fun p np => qe p [] _ (k1.free0 np) ⟨[], upd_same, rfl, fun i it h => by cases h⟩ ⟨⟨by decide, (fun _ h => nomatch h)⟩, .nil, (fun _ h => nomatch h)⟩ (k1.trans (Kp.new np))⟩) (fun k1' => ?_)
  obtain ⟨d0, hsq, a0, e0, b0, c0⟩ := hds.get (i := 0) (by decide) rfl
  obtain ⟨d1, _, a1, e1, b1, c1⟩ := hds.get (K := K) (i := 1) (by decide) rfl
  have il := hb.some_
  have pll := hf.len
  have rl : (pl.map fun q => V.ref q.1).length = its.length := by rw [List.length_map, pll]
  obtain ⟨i, ei⟩ : ∃ i : Nat, d0 % ((its.length : Nat) : Int) = (i : Nat) := ⟨(d0 % ((its.length : Nat) : Int)).toNat, by have := Int.emod_nonneg d0 (show ((its.length : Nat) : Int) ≠ 0 by omega); omega⟩
  have ilt : i < its.length := by have := Int.emod_lt_of_pos d0 (show (0 : Int) < (its.length : Nat) by omega); omega
  have eit : its[i]? = some its[i] := List.getElem?_eq_getElem ilt
  generalize its[i] = it at eit
  obtain ⟨p, l, xs, ep, evp, hp, hl, hd⟩ := hf.get eit
  obtain ⟨l1, l101⟩ := hb.len it (List.mem_of_getElem? eit)
  have xl := hd.len
  obtain ⟨sp, esp⟩ : ∃ sp : Nat, d1 % ((it.2.length : Nat) : Int) = (sp : Nat) := ⟨(d1 % ((it.2.length : Nat) : Int)).toNat, by have := Int.emod_nonneg d1 (show ((it.2.length : Nat) : Int) ≠ 0 by omega); omega⟩
  have spl : sp < it.2.length := by have := Int.emod_lt_of_pos d1 (show (0 : Int) < (it.2.length : Nat) by omega); omega
  have exs : xs[sp]? = some xs[sp] := List.getElem?_eq_getElem (by omega)
  generalize xs[sp] = y at exs
  obtain ⟨dd, edd, hdd⟩ := hd.get exs
  obtain ⟨pr, rfl⟩ := hb.cel it (List.mem_of_getElem? eit) dd (List.mem_of_getElem? edd)
  obtain ⟨q, rfl, hq'⟩ : ∃ q, y = .ref q ∧ H1 q = some (.tup [.int pr.1, .int pr.2]) := by
    cases hdd with
    | tup e h =>
      cases h with
      | cons g1 gt =>
      cases gt with
      | cons g2 gt =>
      cases gt
      cases g1
      cases g2
      exact ⟨_, rfl, e⟩
  refine ⟨_, hsq, _, a0, .inl ⟨d0, rfl, _, .inl (sq_l hf.hr), by omega, _, sq_l hf.hr, .ref p, by rw [rl, ei]; exact atI_nat evp, p, rfl, _, sq_l hp, .ref l, rfl, l, rfl, xs, .inl (sq_l hl), _, hsq, _, a1, .inl ⟨d1, rfl, by omega, l, rfl, xs, sq_l hl, .ref q, by rw [xl, esp]; exact atI_nat exs, ?_⟩⟩⟩
  rw [xl, esp]
  exact hq _ _ ⟨dl, r, ds, its, pl, i, p, l, it, xs, sp, q, pr.1, pr.2, rfl, hds, k1, hf, hb, ep, eit, hp, hl, hd, spl, exs, hq'⟩
end
end My

set_option Elab.async false
set_option linter.all false
set_option maxRecDepth 100000
set_option maxHeartbeats 4000000
namespace My
open PySem L2 NdefX StX
/-- the items are as they are to be -/
def Dn (a n9 nl d : Addr) (k : Int) (H0 : Hp) (σ : L2.St) (H : Hp) : Prop := ∃ (dl r : Addr) (its : List (Str × List PyData)) (c8 c9 c10 c11 c12 : Option V),
  σ = [some (.ref a), some (.ref n9), some (.ref nl), some (.ref d), some (.int k), some (.ref dl), some (.ref r), none, c8, c9, c10, c11, c12] ∧ H0 r = none ∧ Items H r its ∧ EndI its ∧ Kp [] H0 H
/-- a value is changed, a row is still to be made longer -/
def I12 (a n9 nl d : Addr) (k : Int) (H0 : Hp) (σ : L2.St) (H : Hp) : Prop := k = 12 ∧ ∃ (dl r : Addr) (ds : List Int) (its : List (Str × List PyData)) (pl : List (Addr × Addr)) (c8 c9 c10 c11 c12 : Option V),
  σ = [some (.ref a), some (.ref n9), some (.ref nl), some (.ref d), some (.int k), some (.ref dl), some (.ref r), none, c8, c9, c10, c11, c12] ∧ DSp dl ds H ∧ Kp [] H0 H ∧ ItsF H0 H r its pl ∧ GoodI its ∧ 1 ≤ its.length ∧ ∀ it ∈ its, it.2.length ≤ 101
def J (K : PySem.W.Frag) (a n9 nl d : Addr) (k : Int) (H0 : Hp) (S : List Int) (σ : L2.St) (H : Hp) : Prop := (I5 K a n9 nl d k H0 σ H ∧ k ∉ S) ∨ (Dn a n9 nl d k H0 σ H ∧ k ∈ S ∧ k ≠ 12) ∨ (I12 a n9 nl d k H0 σ H ∧ (12 : Int) ∈ S)
theorem J.done {K : PySem.W.Frag} {a n9 nl d : Addr} {k : Int} {H0 : Hp} {S : List Int} {σ : L2.St} {H : Hp} (h : Dn a n9 nl d k H0 σ H) (hk : k ∈ S) (h12 : k ≠ 12) : J K a n9 nl d k H0 S σ H := .inr (.inl ⟨h, hk, h12⟩)
theorem J.skip {K : PySem.W.Frag} {a n9 nl d : Addr} {k : Int} {H0 : Hp} {S S' : List Int} {σ : L2.St} {H : Hp} (h : J K a n9 nl d k H0 S σ H) (hk : k ∈ S' → k ∈ S) (hs : ∀ x ∈ S, x ∈ S') : J K a n9 nl d k H0 S' σ H := by
  rcases h with ⟨h, n⟩ | ⟨h, m, n⟩ | ⟨h, m⟩
  · exact .inl ⟨h, fun z => n (hk z)⟩
  · exact .inr (.inl ⟨h, hs _ m, n⟩)
  · exact .inr (.inr ⟨h, hs _ m⟩)
theorem J.i5 {K : PySem.W.Frag} {a n9 nl d : Addr} {k : Int} {H0 : Hp} {S : List Int} {σ : L2.St} {H : Hp} (h : J K a n9 nl d k H0 S σ H) (hk : k ∉ S) (h12 : k ≠ 12) : I5 K a n9 nl d k H0 σ H := by
  rcases h with ⟨h, n⟩ | ⟨h, m, n⟩ | ⟨⟨h, _⟩, _⟩
  · exact h
  · exact absurd m hk
  · exact absurd h h12
/-- the shape of the state, whatever was done -/
theorem J.shape {K : PySem.W.Frag} {a n9 nl d : Addr} {k : Int} {H0 : Hp} {S : List Int} {σ : L2.St} {H : Hp} (h : J K a n9 nl d k H0 S σ H) : ∃ (dl r : Addr) (c8 c9 c10 c11 c12 : Option V), σ = [some (.ref a), some (.ref n9), some (.ref nl), some (.ref d), some (.int k), some (.ref dl), some (.ref r), none, c8, c9, c10, c11, c12] := by
  rcases h with ⟨⟨dl, r, _, _, _, _, _, _, _, _, _, _, _, _, e, _⟩, _⟩ | ⟨⟨dl, r, _, _, _, _, _, _, e, _⟩, _⟩ | ⟨⟨_, dl, r, _, _, _, _, _, _, _, _, e, _⟩, _⟩
  · exact ⟨_, _, _, _, _, _, _, e⟩
  · exact ⟨_, _, _, _, _, _, _, e⟩
  · exact ⟨_, _, _, _, _, _, _, e⟩
/-- the items behind a change -/
theorem dn_of {a n9 nl d dl r p l l' : Addr} {k : Int} {H0 H H' : Hp} {its : List (Str × List PyData)} {pl : List (Addr × Addr)} {i : Nat} {z' : Str} {xs' : List V} {ds' : List PyData} {c8 c9 c10 c11 c12 : Option V} (hf : ItsF H0 H r its pl) (ep : pl[i]? = some (p, l)) (k0 : Kp [] H0 H) (up : ∀ a o, a ≠ p → a ≠ l → H a = some o → H' a = some o)
    (hp : H' p = some (.lst [.str z', .ref l'])) (hl : H' l' = some (.lst xs')) (hd : DqAll H' xs' ds') (he : EndI (its.set i (z', ds'))) : Dn a n9 nl d k H0 [some (.ref a), some (.ref n9), some (.ref nl), some (.ref d), some (.int k), some (.ref dl), some (.ref r), none, c8, c9, c10, c11, c12] H' :=
  ⟨dl, r, _, _, _, _, _, _, rfl, hf.nr, hf.chg ep up hp hl hd, he, fun b o _ eb => up b o (fun w => by rw [w, (hf.new _ (List.mem_of_getElem? ep)).1] at eb; cases eb) (fun w => by rw [w, (hf.new _ (List.mem_of_getElem? ep)).2.1] at eb; cases eb) (k0 _ _ not0 eb)⟩
theorem tupUp {H : Hp} {p : Addr} {ys : List V} {o : HO} (h : H p = some (.lst ys)) : ∀ a xs, H a = some (.tup xs) → (upd H p o) a = some (.tup xs) := fun a xs ea => by
  rw [upd_ne (fun w => by rw [w, h] at ea; cases ea)]; exact ea
theorem dq_at {H : Hp} {vs : List V} {ds : List PyData} {d : Int} (h : DqAll H vs ds) (h0 : 0 ≤ d) (h1 : d < (vs.length : Nat)) : ∃ v dd, atI vs d = some v ∧ dd ∈ ds ∧ Dq H v dd := by
  have hi : d.toNat < vs.length := by omega
  have e : vs[d.toNat]? = some vs[d.toNat] := List.getElem?_eq_getElem hi
  obtain ⟨dd, ed, hd⟩ := h.get e
  exact ⟨_, dd, atI_of h0 e, List.mem_of_getElem? ed, hd⟩
def odd9 : List Str := [Str.ofString "", Str.ofString "A", Str.ofString "a1", Str.ofString "abcdefghi", Str.ofString "a b", Str.ofString " a", Str.ofString "aB", Str.ofString "a-", Str.ofString "ab_"]
theorem odd9_ok : ∀ z ∈ odd9, nameS z = false ∧ z.length ≤ 1000 ∧ PyData.canLay0 (.str z) = true := by decide +kernel
theorem odd_at {d : Int} (h0 : 0 ≤ d) (h1 : d < 9) : ∃ z, atI (odd9.map V.str) d = some (.str z) ∧ nameS z = false ∧ z.length ≤ 1000 ∧ Fit (.str z) := by
  obtain ⟨z, hz, az⟩ := pick_of (zs := odd9) (i := d) h0 (by exact h1)
  obtain ⟨a, b, c⟩ := odd9_ok z hz
  exact ⟨z, az, a, b, fit_str c⟩
theorem seqIx {n sp : Nat} (h : sp < n) : seqIndex? (sp : Nat) n = some sp := by
  unfold seqIndex?
  simp
  rw [if_neg (by omega)]
  omega
section
variable {P : Program} {w : World} {K : PySem.W.Frag} {mg : Str → Option Value} {base : Heap}
theorem sp_q11 {f : Addr} {cdv : Value} {A : Around} {outer : List Env} {s : Shared} {H : Hp} {Q : VK} {E : XK} (T : BtS mg) (hr : Room 3 (A.deeper (PyProof.Rows.envOfC "_law_spoilt" (defScope s_law_spoilt) s.heap.objs.size f cdv)))
    {a n9 nl d : Addr} {k : Int} {t : TS} (ht : PSs (cxOf CX0 P w K mg base ["_law_script", "_law_nine", "_law_names_here", "_law_rows_here", "_law_kind", "_law_d", "_law_items", "_law_name", "_law_item", "_law_row", "_law_size", "_law_spot", "_law_pair"] "_law_spoilt" (defScope s_law_spoilt) f cdv A outer s H E).nox ((defBody s_law_spoilt).drop 12) t) (hq : ∀ σ H9, J K a n9 nl d k H [3, 13] σ H9 → t { nx := fun _ H' => Q .non H', rt := Q } σ H9) :
    ∃ t, PSs (cxOf CX0 P w K mg base ["_law_script", "_law_nine", "_law_names_here", "_law_rows_here", "_law_kind", "_law_d", "_law_items", "_law_name", "_law_item", "_law_row", "_law_size", "_law_spot", "_law_pair"] "_law_spoilt" (defScope s_law_spoilt) f cdv A outer s H E).nox ((defBody s_law_spoilt).drop 11) t ∧ ∀ σ H9, J K a n9 nl d k H [] σ H9 → t { nx := fun _ H' => Q .non H', rt := Q } σ H9 := by
  have hu := hu_of hr
  refine ⟨_, (pss_cons (ps_if (PW.pt (pw_or (pt_cmpR op_eq (pv 4) pe_int (nomark _)) (pw_or1 (pt_cmpR op_eq (pv 4) pe_int (nomark _))))) (pss_one (ps_asg (pe_ix (r := rIxL K) ix_list (pe_lst (pa_cons pe_str (pa_cons pe_str (pa_cons pe_str (pa_cons pe_str (pa_cons pe_str (pa_cons pe_str (pa_cons pe_str (pa_cons pe_str (pa_cons pe_str pa_nil)))))))))) (pe_ix (r := rIxL K) ix_list (pv 5) pe_int (fun _ _ => rfl)) (fun _ _ => rfl)) (pg_sub (pv 8) pe_int set_list))) pss_nil)
      ht), ?_⟩
  rintro σ H1 hJ
  simp only [tSeq]
  refine ifs_both (J K a n9 nl d k H [3, 13]) (fun Dn' hD => ?_) (fun σ' H' hP => hq σ' H' hP)
  by_cases hk : k = 3 ∨ k = 13
  · obtain ⟨dl, r, ds, its, pl, i, p, l, it, xs, sp, q, u, v, rfl, hds, k1, hf, hb, ep, ei, hp, hl, hd, spl, exs, hq'⟩ := hJ.i5 (by simp <;> omega) (by omega)
    rcases hk with rfl | rfl
    · obtain ⟨d6, hsq, a6, e6, b6, c6⟩ := hds.get (K := K) (i := 6) (by decide) rfl
      obtain ⟨z', az, zno, zl, zf⟩ := odd_at b6 c6
      try simp only [tSeq, tIfS, tTest, tOp, tUn, tCB, tCons, tNil, tVar, tC, rI0, rI, rU, rEq, rNe, tRet, tRetN, tAsg, gName, gSub, tBM, tBM0, tNext, tB, tNot, tAnd, tOr, tIf, tCall, tDrop, tBreak, tCont, L2.start, tDGet, sDPut, tTup, tLst, tDNewK, tRevL, rCat, rAppend, rPop, rSetL, tAndV, tOrV, tNotV, tSl, tPart, tNoPart, tM1, gTup, gCons, gNil, cxK, cxnK, List.map_cons, List.map_nil, List.length_cons, List.length_nil, List.replicate, List.cons_append, List.nil_append, List.append_nil, List.set_cons_zero, List.set_cons_succ, List.getElem?_cons_zero, List.getElem?_cons_succ, Option.some.injEq, V.ref.injEq, V.int.injEq, V.str.injEq, V.bl.injEq, V.ty.injEq, exists_eq_left', exists_eq_left, exists_and_left, List.cons.injEq, and_true, true_and, sc_ii, sc_ss, sc_bb, sc_ni, sc_in, sc_is, sc_si, sc_nn, decide_true, decide_false, reduceCtorEq, Bool.false_eq_true, if_true, if_false, ite_true, ite_false, exists_const, eq_self, false_and, and_false, or_false, false_or, exists_false, Evl.rLenS, rSum, wipe, tYes, exists_eq, exists_eq', rIxL, rIxT, rIxS, exists_and_right, gt_iff_lt, not_true_eq_false, not_false_eq_true, Bool.not_true, Bool.not_false, decide_eq_true_eq, Nat.reduceSub, Nat.reduceAdd, List.append_assoc, tChain, tDIn, tDNotIn, sDDel, tAug, ipI]
      refine ⟨by decide, fun p1 np1 => ?_⟩
      have kp : Kp [] H1 (upd H1 p1 (.lst (odd9.map V.str))) := Kp.new np1
      have h1 : (upd H1 p1 (.lst (odd9.map V.str))) p1 = some (.lst (odd9.map V.str)) := upd_same
      have hpp := kp _ _ not0 hp
      have hll := kp _ _ not0 hl
      have lp : l ≠ p := Ne.symm (hf.cross _ (List.mem_of_getElem? ep) _ (List.mem_of_getElem? ep))
      refine ⟨_, kp.ls not0 hsq, _, a6, _, _, rfl, sq_l h1, _, az, _, hpp, 0, ixN_of (by decide) (show (0 : Int) < 2 by decide), hD _ _ (J.done (dn_of (l' := l) (z' := z') (xs' := xs) (ds' := it.2) hf ep k1 (fun a o h1 h2 ea => by rw [upd_ne h1]; exact kp _ _ not0 ea) upd_same (by rw [upd_ne lp]; exact hll) (flatAll (tupUp hpp) (hd.kp kp) (hf.flat _ (List.mem_of_getElem? ei))) (hb.good.ren ei zno zl zf)) (by simp) (by decide))⟩
    · obtain ⟨d6, hsq, a6, e6, b6, c6⟩ := hds.get (K := K) (i := 6) (by decide) rfl
      obtain ⟨z', az, zno, zl, zf⟩ := odd_at b6 c6
      try simp only [tSeq, tIfS, tTest, tOp, tUn, tCB, tCons, tNil, tVar, tC, rI0, rI, rU, rEq, rNe, tRet, tRetN, tAsg, gName, gSub, tBM, tBM0, tNext, tB, tNot, tAnd, tOr, tIf, tCall, tDrop, tBreak, tCont, L2.start, tDGet, sDPut, tTup, tLst, tDNewK, tRevL, rCat, rAppend, rPop, rSetL, tAndV, tOrV, tNotV, tSl, tPart, tNoPart, tM1, gTup, gCons, gNil, cxK, cxnK, List.map_cons, List.map_nil, List.length_cons, List.length_nil, List.replicate, List.cons_append, List.nil_append, List.append_nil, List.set_cons_zero, List.set_cons_succ, List.getElem?_cons_zero, List.getElem?_cons_succ, Option.some.injEq, V.ref.injEq, V.int.injEq, V.str.injEq, V.bl.injEq, V.ty.injEq, exists_eq_left', exists_eq_left, exists_and_left, List.cons.injEq, and_true, true_and, sc_ii, sc_ss, sc_bb, sc_ni, sc_in, sc_is, sc_si, sc_nn, decide_true, decide_false, reduceCtorEq, Bool.false_eq_true, if_true, if_false, ite_true, ite_false, exists_const, eq_self, false_and, and_false, or_false, false_or, exists_false, Evl.rLenS, rSum, wipe, tYes, exists_eq, exists_eq', rIxL, rIxT, rIxS, exists_and_right, gt_iff_lt, not_true_eq_false, not_false_eq_true, Bool.not_true, Bool.not_false, decide_eq_true_eq, Nat.reduceSub, Nat.reduceAdd, List.append_assoc, tChain, tDIn, tDNotIn, sDDel, tAug, ipI]
      refine ⟨by decide, fun p1 np1 => ?_⟩
      have kp : Kp [] H1 (upd H1 p1 (.lst (odd9.map V.str))) := Kp.new np1
      have h1 : (upd H1 p1 (.lst (odd9.map V.str))) p1 = some (.lst (odd9.map V.str)) := upd_same
      have hpp := kp _ _ not0 hp
      have hll := kp _ _ not0 hl
      have lp : l ≠ p := Ne.symm (hf.cross _ (List.mem_of_getElem? ep) _ (List.mem_of_getElem? ep))
      refine ⟨_, kp.ls not0 hsq, _, a6, _, _, rfl, sq_l h1, _, az, _, hpp, 0, ixN_of (by decide) (show (0 : Int) < 2 by decide), hD _ _ (J.done (dn_of (l' := l) (z' := z') (xs' := xs) (ds' := it.2) hf ep k1 (fun a o h1 h2 ea => by rw [upd_ne h1]; exact kp _ _ not0 ea) upd_same (by rw [upd_ne lp]; exact hll) (flatAll (tupUp hpp) (hd.kp kp) (hf.flat _ (List.mem_of_getElem? ei))) (hb.good.ren ei zno zl zf)) (by simp) (by decide))⟩
  · obtain ⟨dl, r, c8, c9, c10, c11, c12, rfl⟩ := hJ.shape
    try simp only [tSeq, tIfS, tTest, tOp, tUn, tCB, tCons, tNil, tVar, tC, rI0, rI, rU, rEq, rNe, tRet, tRetN, tAsg, gName, gSub, tBM, tBM0, tNext, tB, tNot, tAnd, tOr, tIf, tCall, tDrop, tBreak, tCont, L2.start, tDGet, sDPut, tTup, tLst, tDNewK, tRevL, rCat, rAppend, rPop, rSetL, tAndV, tOrV, tNotV, tSl, tPart, tNoPart, tM1, gTup, gCons, gNil, cxK, cxnK, List.map_cons, List.map_nil, List.length_cons, List.length_nil, List.replicate, List.cons_append, List.nil_append, List.append_nil, List.set_cons_zero, List.set_cons_succ, List.getElem?_cons_zero, List.getElem?_cons_succ, Option.some.injEq, V.ref.injEq, V.int.injEq, V.str.injEq, V.bl.injEq, V.ty.injEq, exists_eq_left', exists_eq_left, exists_and_left, List.cons.injEq, and_true, true_and, sc_ii, sc_ss, sc_bb, sc_ni, sc_in, sc_is, sc_si, sc_nn, decide_true, decide_false, reduceCtorEq, Bool.false_eq_true, if_true, if_false, ite_true, ite_false, exists_const, eq_self, false_and, and_false, or_false, false_or, exists_false, Evl.rLenS, rSum, wipe, tYes, exists_eq, exists_eq', rIxL, rIxT, rIxS, exists_and_right, gt_iff_lt, not_true_eq_false, not_false_eq_true, Bool.not_true, Bool.not_false, decide_eq_true_eq, Nat.reduceSub, Nat.reduceAdd, List.append_assoc, tChain, tDIn, tDNotIn, sDDel, tAug, ipI]
    rw [if_neg (fun h => hk (.inl h)), if_neg (fun h => hk (.inr h))]
    exact hD _ _ (hJ.skip (by simp <;> omega) (by simp))

theorem sp_q12 {f : Addr} {cdv : Value} {A : Around} {outer : List Env} {s : Shared} {H : Hp} {Q : VK} {E : XK} (T : BtS mg) (hr : Room 3 (A.deeper (PyProof.Rows.envOfC "_law_spoilt" (defScope s_law_spoilt) s.heap.objs.size f cdv)))
    {a n9 nl d : Addr} {k : Int} {t : TS} (ht : PSs (cxOf CX0 P w K mg base ["_law_script", "_law_nine", "_law_names_here", "_law_rows_here", "_law_kind", "_law_d", "_law_items", "_law_name", "_law_item", "_law_row", "_law_size", "_law_spot", "_law_pair"] "_law_spoilt" (defScope s_law_spoilt) f cdv A outer s H E).nox ((defBody s_law_spoilt).drop 13) t) (hq : ∀ σ H9, J K a n9 nl d k H [3, 13, 4] σ H9 → t { nx := fun _ H' => Q .non H', rt := Q } σ H9) :
    ∃ t, PSs (cxOf CX0 P w K mg base ["_law_script", "_law_nine", "_law_names_here", "_law_rows_here", "_law_kind", "_law_d", "_law_items", "_law_name", "_law_item", "_law_row", "_law_size", "_law_spot", "_law_pair"] "_law_spoilt" (defScope s_law_spoilt) f cdv A outer s H E).nox ((defBody s_law_spoilt).drop 12) t ∧ ∀ σ H9, J K a n9 nl d k H [3, 13] σ H9 → t { nx := fun _ H' => Q .non H', rt := Q } σ H9 := by
  have hu := hu_of hr
  refine ⟨_, (pss_cons (ps_if (pt_cmpR op_eq (pv 4) pe_int (nomark _)) (pss_one (ps_asg (pe_lst pa_nil) (pg_sub (pv 8) pe_int set_list))) pss_nil)
      ht), ?_⟩
  rintro σ H1 hJ
  simp only [tSeq]
  refine ifs_both (J K a n9 nl d k H [3, 13, 4]) (fun Dn' hD => ?_) (fun σ' H' hP => hq σ' H' hP)
  by_cases hk : k = 4
  · obtain ⟨dl, r, ds, its, pl, i, p, l, it, xs, sp, q, u, v, rfl, hds, k1, hf, hb, ep, ei, hp, hl, hd, spl, exs, hq'⟩ := hJ.i5 (by simp <;> omega) (by omega)
    subst hk
    try simp only [tSeq, tIfS, tTest, tOp, tUn, tCB, tCons, tNil, tVar, tC, rI0, rI, rU, rEq, rNe, tRet, tRetN, tAsg, gName, gSub, tBM, tBM0, tNext, tB, tNot, tAnd, tOr, tIf, tCall, tDrop, tBreak, tCont, L2.start, tDGet, sDPut, tTup, tLst, tDNewK, tRevL, rCat, rAppend, rPop, rSetL, tAndV, tOrV, tNotV, tSl, tPart, tNoPart, tM1, gTup, gCons, gNil, cxK, cxnK, List.map_cons, List.map_nil, List.length_cons, List.length_nil, List.replicate, List.cons_append, List.nil_append, List.append_nil, List.set_cons_zero, List.set_cons_succ, List.getElem?_cons_zero, List.getElem?_cons_succ, Option.some.injEq, V.ref.injEq, V.int.injEq, V.str.injEq, V.bl.injEq, V.ty.injEq, exists_eq_left', exists_eq_left, exists_and_left, List.cons.injEq, and_true, true_and, sc_ii, sc_ss, sc_bb, sc_ni, sc_in, sc_is, sc_si, sc_nn, decide_true, decide_false, reduceCtorEq, Bool.false_eq_true, if_true, if_false, ite_true, ite_false, exists_const, eq_self, false_and, and_false, or_false, false_or, exists_false, Evl.rLenS, rSum, wipe, tYes, exists_eq, exists_eq', rIxL, rIxT, rIxS, exists_and_right, gt_iff_lt, not_true_eq_false, not_false_eq_true, Bool.not_true, Bool.not_false, decide_eq_true_eq, Nat.reduceSub, Nat.reduceAdd, List.append_assoc, tChain, tDIn, tDNotIn, sDDel, tAug, ipI]
    refine ⟨by decide, fun p1 np1 => ?_⟩
    have kp : Kp [] H1 (upd H1 p1 (.lst [])) := Kp.new np1
    have hpp := kp _ _ not0 hp
    have p1p : p1 ≠ p := fun w => by rw [w, hp] at np1; cases np1
    refine ⟨_, hpp, 1, ixN_of (by decide) (show (1 : Int) < 2 by decide), hD _ _ (J.done (dn_of (l' := p1) (z' := it.1) (xs' := []) (ds' := []) hf ep k1 (fun a o h1 h2 ea => by rw [upd_ne h1]; exact kp _ _ not0 ea) upd_same (by rw [upd_ne p1p, upd_same]) .nil (hb.good.set ei rfl (by decide)).fin) (by simp) (by decide))⟩
  · obtain ⟨dl, r, c8, c9, c10, c11, c12, rfl⟩ := hJ.shape
    try simp only [tSeq, tIfS, tTest, tOp, tUn, tCB, tCons, tNil, tVar, tC, rI0, rI, rU, rEq, rNe, tRet, tRetN, tAsg, gName, gSub, tBM, tBM0, tNext, tB, tNot, tAnd, tOr, tIf, tCall, tDrop, tBreak, tCont, L2.start, tDGet, sDPut, tTup, tLst, tDNewK, tRevL, rCat, rAppend, rPop, rSetL, tAndV, tOrV, tNotV, tSl, tPart, tNoPart, tM1, gTup, gCons, gNil, cxK, cxnK, List.map_cons, List.map_nil, List.length_cons, List.length_nil, List.replicate, List.cons_append, List.nil_append, List.append_nil, List.set_cons_zero, List.set_cons_succ, List.getElem?_cons_zero, List.getElem?_cons_succ, Option.some.injEq, V.ref.injEq, V.int.injEq, V.str.injEq, V.bl.injEq, V.ty.injEq, exists_eq_left', exists_eq_left, exists_and_left, List.cons.injEq, and_true, true_and, sc_ii, sc_ss, sc_bb, sc_ni, sc_in, sc_is, sc_si, sc_nn, decide_true, decide_false, reduceCtorEq, Bool.false_eq_true, if_true, if_false, ite_true, ite_false, exists_const, eq_self, false_and, and_false, or_false, false_or, exists_false, Evl.rLenS, rSum, wipe, tYes, exists_eq, exists_eq', rIxL, rIxT, rIxS, exists_and_right, gt_iff_lt, not_true_eq_false, not_false_eq_true, Bool.not_true, Bool.not_false, decide_eq_true_eq, Nat.reduceSub, Nat.reduceAdd, List.append_assoc, tChain, tDIn, tDNotIn, sDDel, tAug, ipI]
    rw [if_neg hk]
    exact hD _ _ (hJ.skip (by simp <;> omega) (by simp))

theorem sp_q13 {f : Addr} {cdv : Value} {A : Around} {outer : List Env} {s : Shared} {H : Hp} {Q : VK} {E : XK} (T : BtS mg) (hr : Room 3 (A.deeper (PyProof.Rows.envOfC "_law_spoilt" (defScope s_law_spoilt) s.heap.objs.size f cdv)))
    {a n9 nl d : Addr} {k : Int} {t : TS} (ht : PSs (cxOf CX0 P w K mg base ["_law_script", "_law_nine", "_law_names_here", "_law_rows_here", "_law_kind", "_law_d", "_law_items", "_law_name", "_law_item", "_law_row", "_law_size", "_law_spot", "_law_pair"] "_law_spoilt" (defScope s_law_spoilt) f cdv A outer s H E).nox ((defBody s_law_spoilt).drop 14) t) (hq : ∀ σ H9, J K a n9 nl d k H [3, 13, 4, 5] σ H9 → t { nx := fun _ H' => Q .non H', rt := Q } σ H9) :
    ∃ t, PSs (cxOf CX0 P w K mg base ["_law_script", "_law_nine", "_law_names_here", "_law_rows_here", "_law_kind", "_law_d", "_law_items", "_law_name", "_law_item", "_law_row", "_law_size", "_law_spot", "_law_pair"] "_law_spoilt" (defScope s_law_spoilt) f cdv A outer s H E).nox ((defBody s_law_spoilt).drop 13) t ∧ ∀ σ H9, J K a n9 nl d k H [3, 13, 4] σ H9 → t { nx := fun _ H' => Q .non H', rt := Q } σ H9 := by
  have hu := hu_of hr
  refine ⟨_, (pss_cons (ps_if (pt_cmpR op_eq (pv 4) pe_int (nomark _)) (pss_one (ps_expr (pe_bm PySem.F.plainAttrs_list PySem.F.slot_list_append PySem.F.type_list_append mt_append (pv 9) (pa_cons (pe_tup (pa_cons (pe_ix (r := rIxL K) ix_list (pv 5) pe_int (fun _ _ => rfl)) (pa_cons pe_int pa_nil))) pa_nil)))) pss_nil)
      ht), ?_⟩
  rintro σ H1 hJ
  simp only [tSeq]
  refine ifs_both (J K a n9 nl d k H [3, 13, 4, 5]) (fun Dn' hD => ?_) (fun σ' H' hP => hq σ' H' hP)
  by_cases hk : k = 5
  · obtain ⟨dl, r, ds, its, pl, i, p, l, it, xs, sp, q, u, v, rfl, hds, k1, hf, hb, ep, ei, hp, hl, hd, spl, exs, hq'⟩ := hJ.i5 (by simp <;> omega) (by omega)
    subst hk
    obtain ⟨d2, hsq, a2, e2, b2, c2⟩ := hds.get (K := K) (i := 2) (by decide) rfl
    have l101 := (hb.len it (List.mem_of_getElem? ei)).2
    have xl := hd.len
    try simp only [tSeq, tIfS, tTest, tOp, tUn, tCB, tCons, tNil, tVar, tC, rI0, rI, rU, rEq, rNe, tRet, tRetN, tAsg, gName, gSub, tBM, tBM0, tNext, tB, tNot, tAnd, tOr, tIf, tCall, tDrop, tBreak, tCont, L2.start, tDGet, sDPut, tTup, tLst, tDNewK, tRevL, rCat, rAppend, rPop, rSetL, tAndV, tOrV, tNotV, tSl, tPart, tNoPart, tM1, gTup, gCons, gNil, cxK, cxnK, List.map_cons, List.map_nil, List.length_cons, List.length_nil, List.replicate, List.cons_append, List.nil_append, List.append_nil, List.set_cons_zero, List.set_cons_succ, List.getElem?_cons_zero, List.getElem?_cons_succ, Option.some.injEq, V.ref.injEq, V.int.injEq, V.str.injEq, V.bl.injEq, V.ty.injEq, exists_eq_left', exists_eq_left, exists_and_left, List.cons.injEq, and_true, true_and, sc_ii, sc_ss, sc_bb, sc_ni, sc_in, sc_is, sc_si, sc_nn, decide_true, decide_false, reduceCtorEq, Bool.false_eq_true, if_true, if_false, ite_true, ite_false, exists_const, eq_self, false_and, and_false, or_false, false_or, exists_false, Evl.rLenS, rSum, wipe, tYes, exists_eq, exists_eq', rIxL, rIxT, rIxS, exists_and_right, gt_iff_lt, not_true_eq_false, not_false_eq_true, Bool.not_true, Bool.not_false, decide_eq_true_eq, Nat.reduceSub, Nat.reduceAdd, List.append_assoc, tChain, tDIn, tDNotIn, sDDel, tAug, ipI]
    refine ⟨.inl ⟨rfl, _, sq_l hl⟩, _, hsq, _, a2, by decide, fun p1 np1 => ?_⟩
    have kp : Kp [] H1 (upd H1 p1 (.tup [.int d2, .int 0])) := Kp.new np1
    have h1 : (upd H1 p1 (.tup [.int d2, .int 0])) p1 = some (.tup [.int d2, .int 0]) := upd_same
    have hpp := kp _ _ not0 hp
    have hll := kp _ _ not0 hl
    have pl_ : p ≠ l := hf.cross _ (List.mem_of_getElem? ep) _ (List.mem_of_getElem? ep)
    have cel : ∀ x ∈ it.2 ++ [cellD (d2, 0)], ∃ p, x = cellD p := fun x hx => (List.mem_append.mp hx).elim (hb.cel it (List.mem_of_getElem? ei) x) fun h => ⟨_, List.mem_singleton.mp h⟩
    refine ⟨_, hll, smallL (by omega), hD _ _ (J.done (dn_of (l' := l) (z' := it.1) (xs' := xs ++ [.ref p1]) (ds' := it.2 ++ [cellD (d2, 0)]) hf ep k1 (fun a o h1 h2 ea => by rw [upd_ne h2]; exact kp _ _ not0 ea) (by rw [upd_ne pl_]; exact hpp) upd_same (flatAll (tupUp hll) (DqAll.app (hd.kp kp) (.cons (.tup h1 (.cons (.int _) (.cons (.int _) .nil))) .nil)) (szCells cel).2) (hb.good.set ei (szCells cel).1 (by rw [List.length_append]; show _ + 1 ≤ 200; omega)).fin) (by simp) (by decide))⟩
  · obtain ⟨dl, r, c8, c9, c10, c11, c12, rfl⟩ := hJ.shape
    try simp only [tSeq, tIfS, tTest, tOp, tUn, tCB, tCons, tNil, tVar, tC, rI0, rI, rU, rEq, rNe, tRet, tRetN, tAsg, gName, gSub, tBM, tBM0, tNext, tB, tNot, tAnd, tOr, tIf, tCall, tDrop, tBreak, tCont, L2.start, tDGet, sDPut, tTup, tLst, tDNewK, tRevL, rCat, rAppend, rPop, rSetL, tAndV, tOrV, tNotV, tSl, tPart, tNoPart, tM1, gTup, gCons, gNil, cxK, cxnK, List.map_cons, List.map_nil, List.length_cons, List.length_nil, List.replicate, List.cons_append, List.nil_append, List.append_nil, List.set_cons_zero, List.set_cons_succ, List.getElem?_cons_zero, List.getElem?_cons_succ, Option.some.injEq, V.ref.injEq, V.int.injEq, V.str.injEq, V.bl.injEq, V.ty.injEq, exists_eq_left', exists_eq_left, exists_and_left, List.cons.injEq, and_true, true_and, sc_ii, sc_ss, sc_bb, sc_ni, sc_in, sc_is, sc_si, sc_nn, decide_true, decide_false, reduceCtorEq, Bool.false_eq_true, if_true, if_false, ite_true, ite_false, exists_const, eq_self, false_and, and_false, or_false, false_or, exists_false, Evl.rLenS, rSum, wipe, tYes, exists_eq, exists_eq', rIxL, rIxT, rIxS, exists_and_right, gt_iff_lt, not_true_eq_false, not_false_eq_true, Bool.not_true, Bool.not_false, decide_eq_true_eq, Nat.reduceSub, Nat.reduceAdd, List.append_assoc, tChain, tDIn, tDNotIn, sDDel, tAug, ipI]
    rw [if_neg hk]
    exact hD _ _ (hJ.skip (by simp <;> omega) (by simp))

theorem sp_q14 {f : Addr} {cdv : Value} {A : Around} {outer : List Env} {s : Shared} {H : Hp} {Q : VK} {E : XK} (T : BtS mg) (hr : Room 3 (A.deeper (PyProof.Rows.envOfC "_law_spoilt" (defScope s_law_spoilt) s.heap.objs.size f cdv)))
    {a n9 nl d : Addr} {k : Int} {t : TS} (ht : PSs (cxOf CX0 P w K mg base ["_law_script", "_law_nine", "_law_names_here", "_law_rows_here", "_law_kind", "_law_d", "_law_items", "_law_name", "_law_item", "_law_row", "_law_size", "_law_spot", "_law_pair"] "_law_spoilt" (defScope s_law_spoilt) f cdv A outer s H E).nox ((defBody s_law_spoilt).drop 15) t) (hq : ∀ σ H9, J K a n9 nl d k H [3, 13, 4, 5, 6] σ H9 → t { nx := fun _ H' => Q .non H', rt := Q } σ H9) :
    ∃ t, PSs (cxOf CX0 P w K mg base ["_law_script", "_law_nine", "_law_names_here", "_law_rows_here", "_law_kind", "_law_d", "_law_items", "_law_name", "_law_item", "_law_row", "_law_size", "_law_spot", "_law_pair"] "_law_spoilt" (defScope s_law_spoilt) f cdv A outer s H E).nox ((defBody s_law_spoilt).drop 14) t ∧ ∀ σ H9, J K a n9 nl d k H [3, 13, 4, 5] σ H9 → t { nx := fun _ H' => Q .non H', rt := Q } σ H9 := by
  have hu := hu_of hr
  refine ⟨_, (pss_cons (ps_if (pt_cmpR op_eq (pv 4) pe_int (nomark _)) (pss_one (ps_expr (pe_bm PySem.F.plainAttrs_list PySem.F.slot_list_pop PySem.F.type_list_pop mt_popAt (pv 9) (pa_cons (pv 11) pa_nil)))) pss_nil)
      ht), ?_⟩
  rintro σ H1 hJ
  simp only [tSeq]
  refine ifs_both (J K a n9 nl d k H [3, 13, 4, 5, 6]) (fun Dn' hD => ?_) (fun σ' H' hP => hq σ' H' hP)
  by_cases hk : k = 6
  · obtain ⟨dl, r, ds, its, pl, i, p, l, it, xs, sp, q, u, v, rfl, hds, k1, hf, hb, ep, ei, hp, hl, hd, spl, exs, hq'⟩ := hJ.i5 (by simp <;> omega) (by omega)
    subst hk
    have l101 := (hb.len it (List.mem_of_getElem? ei)).2
    have xl := hd.len
    try simp only [tSeq, tIfS, tTest, tOp, tUn, tCB, tCons, tNil, tVar, tC, rI0, rI, rU, rEq, rNe, tRet, tRetN, tAsg, gName, gSub, tBM, tBM0, tNext, tB, tNot, tAnd, tOr, tIf, tCall, tDrop, tBreak, tCont, L2.start, tDGet, sDPut, tTup, tLst, tDNewK, tRevL, rCat, rAppend, rPop, rSetL, tAndV, tOrV, tNotV, tSl, tPart, tNoPart, tM1, gTup, gCons, gNil, cxK, cxnK, List.map_cons, List.map_nil, List.length_cons, List.length_nil, List.replicate, List.cons_append, List.nil_append, List.append_nil, List.set_cons_zero, List.set_cons_succ, List.getElem?_cons_zero, List.getElem?_cons_succ, Option.some.injEq, V.ref.injEq, V.int.injEq, V.str.injEq, V.bl.injEq, V.ty.injEq, exists_eq_left', exists_eq_left, exists_and_left, List.cons.injEq, and_true, true_and, sc_ii, sc_ss, sc_bb, sc_ni, sc_in, sc_is, sc_si, sc_nn, decide_true, decide_false, reduceCtorEq, Bool.false_eq_true, if_true, if_false, ite_true, ite_false, exists_const, eq_self, false_and, and_false, or_false, false_or, exists_false, Evl.rLenS, rSum, wipe, tYes, exists_eq, exists_eq', rIxL, rIxT, rIxS, exists_and_right, gt_iff_lt, not_true_eq_false, not_false_eq_true, Bool.not_true, Bool.not_false, decide_eq_true_eq, Nat.reduceSub, Nat.reduceAdd, List.append_assoc, tChain, tDIn, tDNotIn, sDDel, tAug, ipI]
    have pl_ : p ≠ l := hf.cross _ (List.mem_of_getElem? ep) _ (List.mem_of_getElem? ep)
    have cel : ∀ x ∈ it.2.eraseIdx sp, ∃ p, x = cellD p := fun x hx => hb.cel it (List.mem_of_getElem? ei) x (List.mem_of_mem_eraseIdx hx)
    refine ⟨.inl ⟨rfl, _, sq_l hl⟩, l, xs, (sp : Nat), sp, _, rfl, rfl, hl, by omega, by omega, seqIx (by omega), exs, hD _ _ (J.done (dn_of (l' := l) (z' := it.1) (xs' := xs.eraseIdx sp) (ds' := it.2.eraseIdx sp) hf ep k1 (fun a o h1 h2 ea => by rw [upd_ne h2]; exact ea) (by rw [upd_ne pl_]; exact hp) upd_same (flatAll (tupUp hl) (DqAll.erase sp hd) (szCells cel).2) (hb.good.set ei (szCells cel).1 (by have := List.length_eraseIdx_le it.2 sp; omega)).fin) (by simp) (by decide))⟩
  · obtain ⟨dl, r, c8, c9, c10, c11, c12, rfl⟩ := hJ.shape
    try simp only [tSeq, tIfS, tTest, tOp, tUn, tCB, tCons, tNil, tVar, tC, rI0, rI, rU, rEq, rNe, tRet, tRetN, tAsg, gName, gSub, tBM, tBM0, tNext, tB, tNot, tAnd, tOr, tIf, tCall, tDrop, tBreak, tCont, L2.start, tDGet, sDPut, tTup, tLst, tDNewK, tRevL, rCat, rAppend, rPop, rSetL, tAndV, tOrV, tNotV, tSl, tPart, tNoPart, tM1, gTup, gCons, gNil, cxK, cxnK, List.map_cons, List.map_nil, List.length_cons, List.length_nil, List.replicate, List.cons_append, List.nil_append, List.append_nil, List.set_cons_zero, List.set_cons_succ, List.getElem?_cons_zero, List.getElem?_cons_succ, Option.some.injEq, V.ref.injEq, V.int.injEq, V.str.injEq, V.bl.injEq, V.ty.injEq, exists_eq_left', exists_eq_left, exists_and_left, List.cons.injEq, and_true, true_and, sc_ii, sc_ss, sc_bb, sc_ni, sc_in, sc_is, sc_si, sc_nn, decide_true, decide_false, reduceCtorEq, Bool.false_eq_true, if_true, if_false, ite_true, ite_false, exists_const, eq_self, false_and, and_false, or_false, false_or, exists_false, Evl.rLenS, rSum, wipe, tYes, exists_eq, exists_eq', rIxL, rIxT, rIxS, exists_and_right, gt_iff_lt, not_true_eq_false, not_false_eq_true, Bool.not_true, Bool.not_false, decide_eq_true_eq, Nat.reduceSub, Nat.reduceAdd, List.append_assoc, tChain, tDIn, tDNotIn, sDDel, tAug, ipI]
    rw [if_neg hk]
    exact hD _ _ (hJ.skip (by simp <;> omega) (by simp))

end
end My

set_option Elab.async false
set_option linter.all false
set_option maxRecDepth 100000
set_option maxHeartbeats 4000000
namespace My
open PySem L2 NdefX StX
theorem szAll_of : ∀ {ds : List PyData}, (∀ d ∈ ds, szD d = true) → szAll ds = true
  | [], _ => rfl
  | d :: ds, h => by
    show (szD d && szAll ds) = true
    rw [h _ List.mem_cons_self, szAll_of fun x hx => h x (List.mem_cons_of_mem _ hx)]; rfl
theorem sz_set {ds : List PyData} {d : PyData} {sp : Nat} (h : szAll ds = true) (e : szD d = true) : szAll (ds.set sp d) = true :=
  szAll_of fun x hx => (List.mem_or_eq_of_mem_set hx).elim (szAll_mem h x) fun z => z ▸ e
theorem flat_set {ds : List PyData} {d : PyData} {sp : Nat} (h : ds.all flatD = true) (e : flatD d = true) : (ds.set sp d).all flatD = true := by
  rw [List.all_eq_true] at h ⊢
  exact fun x hx => (List.mem_or_eq_of_mem_set hx).elim (h x) fun z => z ▸ e
/-- a pair is put into the row at l -/
theorem val_set {H1 H2 : Hp} {p l p2 : Addr} {z : Str} {xs : List V} {ds : List PyData} {sp : Nat} {x1 x2 : V} {d1 d2 : PyData} (k12 : Kp [] H1 H2) (hp : H1 p = some (.lst [.str z, .ref l])) (hl : H1 l = some (.lst xs)) (pl_ : p ≠ l) (hd : DqAll H1 xs ds) (fl : ds.all flatD = true) (sz : szAll ds = true) (np2 : H2 p2 = none)
    (g1 : Dq H2 x1 d1) (g2 : Dq H2 x2 d2) (i1 : immD d1 = true) (i2 : immD d2 = true) (s1 : szD d1 = true) (s2 : szD d2 = true) :
    (∀ a o, a ≠ p → a ≠ l → H1 a = some o → (upd (upd H2 p2 (.tup [x1, x2])) l (.lst (xs.set sp (.ref p2)))) a = some o) ∧ (upd (upd H2 p2 (.tup [x1, x2])) l (.lst (xs.set sp (.ref p2)))) p = some (.lst [.str z, .ref l]) ∧ (upd (upd H2 p2 (.tup [x1, x2])) l (.lst (xs.set sp (.ref p2)))) l = some (.lst (xs.set sp (.ref p2))) ∧
    DqAll (upd (upd H2 p2 (.tup [x1, x2])) l (.lst (xs.set sp (.ref p2)))) (xs.set sp (.ref p2)) (ds.set sp (.tuple [d1, d2])) ∧ (ds.set sp (.tuple [d1, d2])).all flatD = true ∧ szAll (ds.set sp (.tuple [d1, d2])) = true := by
  have k3 : Kp [] H2 (upd H2 p2 (.tup [x1, x2])) := Kp.new np2
  have k13 := k12.trans k3
  have hl3 := k13 _ _ not0 hl
  have h2 : (upd H2 p2 (.tup [x1, x2])) p2 = some (.tup [x1, x2]) := upd_same
  have fs : flatD (.tuple [d1, d2]) = true := by
    show (immD d1 && (immD d2 && true)) = true
    rw [i1, i2]; rfl
  have fl' := flat_set (sp := sp) fl fs
  refine ⟨fun a o _ h2 ea => by rw [upd_ne h2]; exact k13 _ _ not0 ea, by rw [upd_ne pl_]; exact k13 _ _ not0 hp, upd_same, flatAll (tupUp hl3) (DqAll.set sp (hd.kp k13) (.tup h2 (.cons (g1.kp k3) (.cons (g2.kp k3) .nil)))) fl', fl', sz_set sz ?_⟩
  show (szD d1 && (szD d2 && true)) = true
  rw [s1, s2]; rfl
theorem ints_no {ds : List Int} {xs : List V} {i : Nat} {q : Addr} (h : xs[i]? = some (.ref q)) : ds.map V.int ≠ xs := fun e => by
  rw [← e, List.getElem?_map] at h
  cases e2 : ds[i]? with
  | none => rw [e2] at h; cases h
  | some x => rw [e2] at h; cases h
section
variable {P : Program} {w : World} {K : PySem.W.Frag} {mg : Str → Option Value} {base : Heap}
theorem sp_q15 {f : Addr} {cdv : Value} {A : Around} {outer : List Env} {s : Shared} {H : Hp} {Q : VK} {E : XK} (T : BtS mg) (hr : Room 3 (A.deeper (PyProof.Rows.envOfC "_law_spoilt" (defScope s_law_spoilt) s.heap.objs.size f cdv)))
    {a n9 nl d : Addr} {k : Int} {t : TS} (ht : PSs (cxOf CX0 P w K mg base ["_law_script", "_law_nine", "_law_names_here", "_law_rows_here", "_law_kind", "_law_d", "_law_items", "_law_name", "_law_item", "_law_row", "_law_size", "_law_spot", "_law_pair"] "_law_spoilt" (defScope s_law_spoilt) f cdv A outer s H E).nox ((defBody s_law_spoilt).drop 16) t) (hq : ∀ σ H9, J K a n9 nl d k H [3, 13, 4, 5, 6, 7, 12] σ H9 → t { nx := fun _ H' => Q .non H', rt := Q } σ H9) :
    ∃ t, PSs (cxOf CX0 P w K mg base ["_law_script", "_law_nine", "_law_names_here", "_law_rows_here", "_law_kind", "_law_d", "_law_items", "_law_name", "_law_item", "_law_row", "_law_size", "_law_spot", "_law_pair"] "_law_spoilt" (defScope s_law_spoilt) f cdv A outer s H E).nox ((defBody s_law_spoilt).drop 15) t ∧ ∀ σ H9, J K a n9 nl d k H [3, 13, 4, 5, 6] σ H9 → t { nx := fun _ H' => Q .non H', rt := Q } σ H9 := by
  have hu := hu_of hr
  refine ⟨_, (pss_cons (ps_if (PW.pt (pw_or (pt_cmpR op_eq (pv 4) pe_int (nomark _)) (pw_or1 (pt_cmpR op_eq (pv 4) pe_int (nomark _))))) (pss_one (ps_asg (pe_tup (pa_cons (pe_ix (r := rIxL K) ix_list (pe_lst (pa_cons pe_int (pa_cons (pe_un un_neg pe_int) (pa_cons (pe_op op_add pe_int (pe_ix (r := rIxL K) ix_list (pv 5) pe_int (fun _ _ => rfl))) (pa_cons pe_non (pa_cons pe_bl (pa_cons pe_str pa_nil))))))) (pe_ix (r := rIxL K) ix_list (pv 5) pe_int (fun _ _ => rfl)) (fun _ _ => rfl)) (pa_cons (pe_ix (r := rIxT K) ix_tup (pv 12) pe_int (fun _ _ => rfl)) pa_nil))) (pg_sub (pv 9) (pv 11) set_list))) pss_nil)
      ht), ?_⟩
  rintro σ H1 hJ
  simp only [tSeq]
  refine ifs_both (J K a n9 nl d k H [3, 13, 4, 5, 6, 7, 12]) (fun Dn' hD => ?_) (fun σ' H' hP => hq σ' H' hP)
  by_cases hk : k = 7 ∨ k = 12
  · have hI : I5 K a n9 nl d k H σ H1 := by
      rcases hJ with ⟨h, _⟩ | ⟨_, m, n⟩ | ⟨_, m⟩
      · exact h
      · simp at m; omega
      · simp at m
    obtain ⟨dl, r, ds, its, pl, i, p, l, it, xs, sp, q, u, v, rfl, hds, k1, hf, hb, ep, ei, hp, hl, hd, spl, exs, hq'⟩ := hI
    rcases hk with rfl | rfl
    · obtain ⟨d3, hsq, a3, e3, b3, c3⟩ := hds.get (K := K) (i := 3) (by decide) rfl
      obtain ⟨d4, _, a4, e4, b4, c4⟩ := hds.get (K := K) (i := 4) (by decide) rfl
      have l101 := (hb.len it (List.mem_of_getElem? ei)).2
      have xl := hd.len
      have mi := List.mem_of_getElem? ei
      have pl_ : p ≠ l := hf.cross _ (List.mem_of_getElem? ep) _ (List.mem_of_getElem? ep)
      have dlp : dl ≠ p := fun w => by have h1 := hds.hd; rw [w, hp] at h1; exact ints_no (i := 1) (q := l) (ds := ds) (xs := [.str it.1, .ref l]) rfl (by injection h1 with h1; injection h1 with h1; exact h1.symm)
      have dll : dl ≠ l := fun w => by have h1 := hds.hd; rw [w, hl] at h1; exact ints_no exs (ds := ds) (by injection h1 with h1; injection h1 with h1; exact h1.symm)
      try simp only [tSeq, tIfS, tTest, tOp, tUn, tCB, tCons, tNil, tVar, tC, rI0, rI, rU, rEq, rNe, tRet, tRetN, tAsg, gName, gSub, tBM, tBM0, tNext, tB, tNot, tAnd, tOr, tIf, tCall, tDrop, tBreak, tCont, L2.start, tDGet, sDPut, tTup, tLst, tDNewK, tRevL, rCat, rAppend, rPop, rSetL, tAndV, tOrV, tNotV, tSl, tPart, tNoPart, tM1, gTup, gCons, gNil, cxK, cxnK, List.map_cons, List.map_nil, List.length_cons, List.length_nil, List.replicate, List.cons_append, List.nil_append, List.append_nil, List.set_cons_zero, List.set_cons_succ, List.getElem?_cons_zero, List.getElem?_cons_succ, Option.some.injEq, V.ref.injEq, V.int.injEq, V.str.injEq, V.bl.injEq, V.ty.injEq, exists_eq_left', exists_eq_left, exists_and_left, List.cons.injEq, and_true, true_and, sc_ii, sc_ss, sc_bb, sc_ni, sc_in, sc_is, sc_si, sc_nn, decide_true, decide_false, reduceCtorEq, Bool.false_eq_true, if_true, if_false, ite_true, ite_false, exists_const, eq_self, false_and, and_false, or_false, false_or, exists_false, Evl.rLenS, rSum, wipe, tYes, exists_eq, exists_eq', rIxL, rIxT, rIxS, exists_and_right, gt_iff_lt, not_true_eq_false, not_false_eq_true, Bool.not_true, Bool.not_false, decide_eq_true_eq, Nat.reduceSub, Nat.reduceAdd, List.append_assoc, tChain, tDIn, tDNotIn, sDDel, tAug, ipI]
      refine ⟨_, hsq, _, a3, _, rfl, by decide, fun p1 np1 => ?_⟩
      have k2 : Kp [] H1 (upd H1 p1 (.lst [.int 10, .int (-1), .int (10 + d3), .non, .bl true, .str (Str.ofString "0")])) := Kp.new np1
      have h2 : (upd H1 p1 (.lst [.int 10, .int (-1), .int (10 + d3), .non, .bl true, .str (Str.ofString "0")])) p1 = some (.lst [.int 10, .int (-1), .int (10 + d3), .non, .bl true, .str (Str.ofString "0")]) := upd_same
      generalize (upd H1 p1 (.lst [.int 10, .int (-1), .int (10 + d3), .non, .bl true, .str (Str.ofString "0")])) = H2 at k2 h2 ⊢
      obtain ⟨x, dd, ax, mdd, gdd⟩ := dq_at (H := H2) (vs := [.int 10, .int (-1), .int (10 + d3), .non, .bl true, .str (Str.ofString "0")]) (ds := [.int 10, .int (-1), .int (10 + d3), .none, .bool true, .str (Str.ofString "0")]) (.cons (.int _) (.cons (.int _) (.cons (.int _) (.cons .non (.cons (.bl _) (.cons (.str _) .nil)))))) b4 c4
      have imm : immD dd = true ∧ szD dd = true := by
        simp only [List.mem_cons, List.not_mem_nil, or_false] at mdd
        rcases mdd with rfl | rfl | rfl | rfl | rfl | rfl <;> exact ⟨rfl, rfl⟩
      refine ⟨_, k2.ls not0 hsq, _, a4, _, _, rfl, sq_l h2, _, ax, _, sq_t (k2 _ _ not0 hq'), _, rfl, by decide, fun p2 np2 => ?_⟩
      obtain ⟨up', hp', hl', hd', fl', sz'⟩ := val_set (sp := sp) k2 hp hl pl_ hd (hf.flat it mi) (hb.good.sz it mi) np2 gdd (.int v) imm.1 rfl imm.2 rfl
      refine ⟨_, (k2.trans (Kp.new np2)) _ _ not0 hl, sp, ixN_of (by omega) (by omega), ?_⟩
      exact hD _ _ (J.done (dn_of (l' := l) (z' := it.1) hf ep k1 up' hp' hl' hd' (hb.good.set ei sz' (by rw [List.length_set]; omega)).fin) (by simp) (by decide))
    · obtain ⟨d3, hsq, a3, e3, b3, c3⟩ := hds.get (K := K) (i := 3) (by decide) rfl
      obtain ⟨d4, _, a4, e4, b4, c4⟩ := hds.get (K := K) (i := 4) (by decide) rfl
      have l101 := (hb.len it (List.mem_of_getElem? ei)).2
      have xl := hd.len
      have mi := List.mem_of_getElem? ei
      have pl_ : p ≠ l := hf.cross _ (List.mem_of_getElem? ep) _ (List.mem_of_getElem? ep)
      have dlp : dl ≠ p := fun w => by have h1 := hds.hd; rw [w, hp] at h1; exact ints_no (i := 1) (q := l) (ds := ds) (xs := [.str it.1, .ref l]) rfl (by injection h1 with h1; injection h1 with h1; exact h1.symm)
      have dll : dl ≠ l := fun w => by have h1 := hds.hd; rw [w, hl] at h1; exact ints_no exs (ds := ds) (by injection h1 with h1; injection h1 with h1; exact h1.symm)
      try simp only [tSeq, tIfS, tTest, tOp, tUn, tCB, tCons, tNil, tVar, tC, rI0, rI, rU, rEq, rNe, tRet, tRetN, tAsg, gName, gSub, tBM, tBM0, tNext, tB, tNot, tAnd, tOr, tIf, tCall, tDrop, tBreak, tCont, L2.start, tDGet, sDPut, tTup, tLst, tDNewK, tRevL, rCat, rAppend, rPop, rSetL, tAndV, tOrV, tNotV, tSl, tPart, tNoPart, tM1, gTup, gCons, gNil, cxK, cxnK, List.map_cons, List.map_nil, List.length_cons, List.length_nil, List.replicate, List.cons_append, List.nil_append, List.append_nil, List.set_cons_zero, List.set_cons_succ, List.getElem?_cons_zero, List.getElem?_cons_succ, Option.some.injEq, V.ref.injEq, V.int.injEq, V.str.injEq, V.bl.injEq, V.ty.injEq, exists_eq_left', exists_eq_left, exists_and_left, List.cons.injEq, and_true, true_and, sc_ii, sc_ss, sc_bb, sc_ni, sc_in, sc_is, sc_si, sc_nn, decide_true, decide_false, reduceCtorEq, Bool.false_eq_true, if_true, if_false, ite_true, ite_false, exists_const, eq_self, false_and, and_false, or_false, false_or, exists_false, Evl.rLenS, rSum, wipe, tYes, exists_eq, exists_eq', rIxL, rIxT, rIxS, exists_and_right, gt_iff_lt, not_true_eq_false, not_false_eq_true, Bool.not_true, Bool.not_false, decide_eq_true_eq, Nat.reduceSub, Nat.reduceAdd, List.append_assoc, tChain, tDIn, tDNotIn, sDDel, tAug, ipI]
      rw [if_neg (by decide)]
      refine ⟨_, hsq, _, a3, _, rfl, by decide, fun p1 np1 => ?_⟩
      have k2 : Kp [] H1 (upd H1 p1 (.lst [.int 10, .int (-1), .int (10 + d3), .non, .bl true, .str (Str.ofString "0")])) := Kp.new np1
      have h2 : (upd H1 p1 (.lst [.int 10, .int (-1), .int (10 + d3), .non, .bl true, .str (Str.ofString "0")])) p1 = some (.lst [.int 10, .int (-1), .int (10 + d3), .non, .bl true, .str (Str.ofString "0")]) := upd_same
      generalize (upd H1 p1 (.lst [.int 10, .int (-1), .int (10 + d3), .non, .bl true, .str (Str.ofString "0")])) = H2 at k2 h2 ⊢
      obtain ⟨x, dd, ax, mdd, gdd⟩ := dq_at (H := H2) (vs := [.int 10, .int (-1), .int (10 + d3), .non, .bl true, .str (Str.ofString "0")]) (ds := [.int 10, .int (-1), .int (10 + d3), .none, .bool true, .str (Str.ofString "0")]) (.cons (.int _) (.cons (.int _) (.cons (.int _) (.cons .non (.cons (.bl _) (.cons (.str _) .nil)))))) b4 c4
      have imm : immD dd = true ∧ szD dd = true := by
        simp only [List.mem_cons, List.not_mem_nil, or_false] at mdd
        rcases mdd with rfl | rfl | rfl | rfl | rfl | rfl <;> exact ⟨rfl, rfl⟩
      refine ⟨_, k2.ls not0 hsq, _, a4, _, _, rfl, sq_l h2, _, ax, _, sq_t (k2 _ _ not0 hq'), _, rfl, by decide, fun p2 np2 => ?_⟩
      obtain ⟨up', hp', hl', hd', fl', sz'⟩ := val_set (sp := sp) k2 hp hl pl_ hd (hf.flat it mi) (hb.good.sz it mi) np2 gdd (.int v) imm.1 rfl imm.2 rfl
      refine ⟨_, (k2.trans (Kp.new np2)) _ _ not0 hl, sp, ixN_of (by omega) (by omega), ?_⟩
      exact hD _ _ (.inr (.inr ⟨⟨rfl, dl, r, ds, _, pl, _, _, _, _, _, rfl, ⟨up' dl _ dlp dll hds.hd, hds.ok⟩, fun b o _ eb => up' b o (fun w => by rw [w, (hf.new _ (List.mem_of_getElem? ep)).1] at eb; cases eb) (fun w => by rw [w, (hf.new _ (List.mem_of_getElem? ep)).2.1] at eb; cases eb) (k1 _ _ not0 eb), hf.chgF ep up' hp' hl' hd' fl', hb.good.set ei sz' (by rw [List.length_set]; omega), by rw [List.length_set]; exact hb.some_, fun it' hi => (List.mem_or_eq_of_mem_set hi).elim (fun h => (hb.len it' h).2) fun h => by rw [h]; show (it.2.set sp _).length ≤ 101; rw [List.length_set]; exact l101⟩, by simp⟩))
  · obtain ⟨dl, r, c8, c9, c10, c11, c12, rfl⟩ := hJ.shape
    try simp only [tSeq, tIfS, tTest, tOp, tUn, tCB, tCons, tNil, tVar, tC, rI0, rI, rU, rEq, rNe, tRet, tRetN, tAsg, gName, gSub, tBM, tBM0, tNext, tB, tNot, tAnd, tOr, tIf, tCall, tDrop, tBreak, tCont, L2.start, tDGet, sDPut, tTup, tLst, tDNewK, tRevL, rCat, rAppend, rPop, rSetL, tAndV, tOrV, tNotV, tSl, tPart, tNoPart, tM1, gTup, gCons, gNil, cxK, cxnK, List.map_cons, List.map_nil, List.length_cons, List.length_nil, List.replicate, List.cons_append, List.nil_append, List.append_nil, List.set_cons_zero, List.set_cons_succ, List.getElem?_cons_zero, List.getElem?_cons_succ, Option.some.injEq, V.ref.injEq, V.int.injEq, V.str.injEq, V.bl.injEq, V.ty.injEq, exists_eq_left', exists_eq_left, exists_and_left, List.cons.injEq, and_true, true_and, sc_ii, sc_ss, sc_bb, sc_ni, sc_in, sc_is, sc_si, sc_nn, decide_true, decide_false, reduceCtorEq, Bool.false_eq_true, if_true, if_false, ite_true, ite_false, exists_const, eq_self, false_and, and_false, or_false, false_or, exists_false, Evl.rLenS, rSum, wipe, tYes, exists_eq, exists_eq', rIxL, rIxT, rIxS, exists_and_right, gt_iff_lt, not_true_eq_false, not_false_eq_true, Bool.not_true, Bool.not_false, decide_eq_true_eq, Nat.reduceSub, Nat.reduceAdd, List.append_assoc, tChain, tDIn, tDNotIn, sDDel, tAug, ipI]
    rw [if_neg (fun h => hk (.inl h)), if_neg (fun h => hk (.inr h))]
    exact hD _ _ (hJ.skip (by simp <;> omega) (by simp))

theorem sp_q16 {f : Addr} {cdv : Value} {A : Around} {outer : List Env} {s : Shared} {H : Hp} {Q : VK} {E : XK} (T : BtS mg) (hr : Room 3 (A.deeper (PyProof.Rows.envOfC "_law_spoilt" (defScope s_law_spoilt) s.heap.objs.size f cdv)))
    {a n9 nl d : Addr} {k : Int} {t : TS} (ht : PSs (cxOf CX0 P w K mg base ["_law_script", "_law_nine", "_law_names_here", "_law_rows_here", "_law_kind", "_law_d", "_law_items", "_law_name", "_law_item", "_law_row", "_law_size", "_law_spot", "_law_pair"] "_law_spoilt" (defScope s_law_spoilt) f cdv A outer s H E).nox ((defBody s_law_spoilt).drop 17) t) (hq : ∀ σ H9, J K a n9 nl d k H [3, 13, 4, 5, 6, 7, 12, 8] σ H9 → t { nx := fun _ H' => Q .non H', rt := Q } σ H9) :
    ∃ t, PSs (cxOf CX0 P w K mg base ["_law_script", "_law_nine", "_law_names_here", "_law_rows_here", "_law_kind", "_law_d", "_law_items", "_law_name", "_law_item", "_law_row", "_law_size", "_law_spot", "_law_pair"] "_law_spoilt" (defScope s_law_spoilt) f cdv A outer s H E).nox ((defBody s_law_spoilt).drop 16) t ∧ ∀ σ H9, J K a n9 nl d k H [3, 13, 4, 5, 6, 7, 12] σ H9 → t { nx := fun _ H' => Q .non H', rt := Q } σ H9 := by
  have hu := hu_of hr
  refine ⟨_, (pss_cons (ps_if (pt_cmpR op_eq (pv 4) pe_int (nomark _)) (pss_one (ps_asg (pe_tup (pa_cons (pe_ix (r := rIxT K) ix_tup (pv 12) pe_int (fun _ _ => rfl)) (pa_cons (pe_ix (r := rIxL K) ix_list (pe_lst (pa_cons (pv 10) (pa_cons (pe_un un_neg pe_int) (pa_cons (pe_op op_add (pv 10) (pe_ix (r := rIxL K) ix_list (pv 5) pe_int (fun _ _ => rfl))) (pa_cons (pe_op op_sub (pe_un un_neg pe_int) (pe_ix (r := rIxL K) ix_list (pv 5) pe_int (fun _ _ => rfl))) (pa_cons pe_non (pa_cons pe_str pa_nil))))))) (pe_ix (r := rIxL K) ix_list (pv 5) pe_int (fun _ _ => rfl)) (fun _ _ => rfl)) pa_nil))) (pg_sub (pv 9) (pv 11) set_list))) pss_nil)
      ht), ?_⟩
  rintro σ H1 hJ
  simp only [tSeq]
  refine ifs_both (J K a n9 nl d k H [3, 13, 4, 5, 6, 7, 12, 8]) (fun Dn' hD => ?_) (fun σ' H' hP => hq σ' H' hP)
  by_cases hk : k = 8
  · obtain ⟨dl, r, ds, its, pl, i, p, l, it, xs, sp, q, u, v, rfl, hds, k1, hf, hb, ep, ei, hp, hl, hd, spl, exs, hq'⟩ := hJ.i5 (by simp <;> omega) (by omega)
    subst hk
    obtain ⟨d3, hsq, a3, e3, b3, c3⟩ := hds.get (K := K) (i := 3) (by decide) rfl
    obtain ⟨d4, _, a4, e4, b4, c4⟩ := hds.get (K := K) (i := 4) (by decide) rfl
    have l101 := (hb.len it (List.mem_of_getElem? ei)).2
    have xl := hd.len
    have mi := List.mem_of_getElem? ei
    have pl_ : p ≠ l := hf.cross _ (List.mem_of_getElem? ep) _ (List.mem_of_getElem? ep)
    try simp only [tSeq, tIfS, tTest, tOp, tUn, tCB, tCons, tNil, tVar, tC, rI0, rI, rU, rEq, rNe, tRet, tRetN, tAsg, gName, gSub, tBM, tBM0, tNext, tB, tNot, tAnd, tOr, tIf, tCall, tDrop, tBreak, tCont, L2.start, tDGet, sDPut, tTup, tLst, tDNewK, tRevL, rCat, rAppend, rPop, rSetL, tAndV, tOrV, tNotV, tSl, tPart, tNoPart, tM1, gTup, gCons, gNil, cxK, cxnK, List.map_cons, List.map_nil, List.length_cons, List.length_nil, List.replicate, List.cons_append, List.nil_append, List.append_nil, List.set_cons_zero, List.set_cons_succ, List.getElem?_cons_zero, List.getElem?_cons_succ, Option.some.injEq, V.ref.injEq, V.int.injEq, V.str.injEq, V.bl.injEq, V.ty.injEq, exists_eq_left', exists_eq_left, exists_and_left, List.cons.injEq, and_true, true_and, sc_ii, sc_ss, sc_bb, sc_ni, sc_in, sc_is, sc_si, sc_nn, decide_true, decide_false, reduceCtorEq, Bool.false_eq_true, if_true, if_false, ite_true, ite_false, exists_const, eq_self, false_and, and_false, or_false, false_or, exists_false, Evl.rLenS, rSum, wipe, tYes, exists_eq, exists_eq', rIxL, rIxT, rIxS, exists_and_right, gt_iff_lt, not_true_eq_false, not_false_eq_true, Bool.not_true, Bool.not_false, decide_eq_true_eq, Nat.reduceSub, Nat.reduceAdd, List.append_assoc, tChain, tDIn, tDNotIn, sDDel, tAug, ipI]
    refine ⟨_, sq_t hq', _, rfl, _, hsq, _, a3, _, rfl, _, hsq, _, a3, _, rfl, by decide, fun p1 np1 => ?_⟩
    have k2 : Kp [] H1 (upd H1 p1 (.lst [.int (it.2.length : Nat), .int (-1), .int ((it.2.length : Nat) + d3), .int (-1 - d3), .non, .str (Str.ofString "0")])) := Kp.new np1
    have h2 : (upd H1 p1 (.lst [.int (it.2.length : Nat), .int (-1), .int ((it.2.length : Nat) + d3), .int (-1 - d3), .non, .str (Str.ofString "0")])) p1 = some (.lst [.int (it.2.length : Nat), .int (-1), .int ((it.2.length : Nat) + d3), .int (-1 - d3), .non, .str (Str.ofString "0")]) := upd_same
    generalize (upd H1 p1 (.lst [.int (it.2.length : Nat), .int (-1), .int ((it.2.length : Nat) + d3), .int (-1 - d3), .non, .str (Str.ofString "0")])) = H2 at k2 h2 ⊢
    obtain ⟨x, dd, ax, mdd, gdd⟩ := dq_at (H := H2) (vs := [.int (it.2.length : Nat), .int (-1), .int ((it.2.length : Nat) + d3), .int (-1 - d3), .non, .str (Str.ofString "0")]) (ds := [.int (it.2.length : Nat), .int (-1), .int ((it.2.length : Nat) + d3), .int (-1 - d3), .none, .str (Str.ofString "0")]) (.cons (.int _) (.cons (.int _) (.cons (.int _) (.cons (.int _) (.cons .non (.cons (.str _) .nil)))))) b4 c4
    have imm : immD dd = true ∧ szD dd = true := by
      simp only [List.mem_cons, List.not_mem_nil, or_false] at mdd
      rcases mdd with rfl | rfl | rfl | rfl | rfl | rfl <;> exact ⟨rfl, rfl⟩
    refine ⟨_, k2.ls not0 hsq, _, a4, _, _, rfl, sq_l h2, _, ax, by decide, fun p2 np2 => ?_⟩
    obtain ⟨up', hp', hl', hd', fl', sz'⟩ := val_set (sp := sp) k2 hp hl pl_ hd (hf.flat it mi) (hb.good.sz it mi) np2 (.int u) gdd rfl imm.1 rfl imm.2
    refine ⟨_, (k2.trans (Kp.new np2)) _ _ not0 hl, sp, ixN_of (by omega) (by omega), ?_⟩
    exact hD _ _ (J.done (dn_of (l' := l) (z' := it.1) hf ep k1 up' hp' hl' hd' (hb.good.set ei sz' (by rw [List.length_set]; omega)).fin) (by simp) (by decide))
  · obtain ⟨dl, r, c8, c9, c10, c11, c12, rfl⟩ := hJ.shape
    try simp only [tSeq, tIfS, tTest, tOp, tUn, tCB, tCons, tNil, tVar, tC, rI0, rI, rU, rEq, rNe, tRet, tRetN, tAsg, gName, gSub, tBM, tBM0, tNext, tB, tNot, tAnd, tOr, tIf, tCall, tDrop, tBreak, tCont, L2.start, tDGet, sDPut, tTup, tLst, tDNewK, tRevL, rCat, rAppend, rPop, rSetL, tAndV, tOrV, tNotV, tSl, tPart, tNoPart, tM1, gTup, gCons, gNil, cxK, cxnK, List.map_cons, List.map_nil, List.length_cons, List.length_nil, List.replicate, List.cons_append, List.nil_append, List.append_nil, List.set_cons_zero, List.set_cons_succ, List.getElem?_cons_zero, List.getElem?_cons_succ, Option.some.injEq, V.ref.injEq, V.int.injEq, V.str.injEq, V.bl.injEq, V.ty.injEq, exists_eq_left', exists_eq_left, exists_and_left, List.cons.injEq, and_true, true_and, sc_ii, sc_ss, sc_bb, sc_ni, sc_in, sc_is, sc_si, sc_nn, decide_true, decide_false, reduceCtorEq, Bool.false_eq_true, if_true, if_false, ite_true, ite_false, exists_const, eq_self, false_and, and_false, or_false, false_or, exists_false, Evl.rLenS, rSum, wipe, tYes, exists_eq, exists_eq', rIxL, rIxT, rIxS, exists_and_right, gt_iff_lt, not_true_eq_false, not_false_eq_true, Bool.not_true, Bool.not_false, decide_eq_true_eq, Nat.reduceSub, Nat.reduceAdd, List.append_assoc, tChain, tDIn, tDNotIn, sDDel, tAug, ipI]
    rw [if_neg hk]
    exact hD _ _ (hJ.skip (by simp <;> omega) (by simp))

theorem sp_q17 {f : Addr} {cdv : Value} {A : Around} {outer : List Env} {s : Shared} {H : Hp} {Q : VK} {E : XK} (T : BtS mg) (hr : Room 3 (A.deeper (PyProof.Rows.envOfC "_law_spoilt" (defScope s_law_spoilt) s.heap.objs.size f cdv)))
    {a n9 nl d : Addr} {k : Int} {t : TS} (ht : PSs (cxOf CX0 P w K mg base ["_law_script", "_law_nine", "_law_names_here", "_law_rows_here", "_law_kind", "_law_d", "_law_items", "_law_name", "_law_item", "_law_row", "_law_size", "_law_spot", "_law_pair"] "_law_spoilt" (defScope s_law_spoilt) f cdv A outer s H E).nox ((defBody s_law_spoilt).drop 18) t) (hq : ∀ σ H9, J K a n9 nl d k H [3, 13, 4, 5, 6, 7, 12, 8, 9] σ H9 → t { nx := fun _ H' => Q .non H', rt := Q } σ H9) :
    ∃ t, PSs (cxOf CX0 P w K mg base ["_law_script", "_law_nine", "_law_names_here", "_law_rows_here", "_law_kind", "_law_d", "_law_items", "_law_name", "_law_item", "_law_row", "_law_size", "_law_spot", "_law_pair"] "_law_spoilt" (defScope s_law_spoilt) f cdv A outer s H E).nox ((defBody s_law_spoilt).drop 17) t ∧ ∀ σ H9, J K a n9 nl d k H [3, 13, 4, 5, 6, 7, 12, 8] σ H9 → t { nx := fun _ H' => Q .non H', rt := Q } σ H9 := by
  have hu := hu_of hr
  refine ⟨_, (pss_cons (ps_if (pt_cmpR op_eq (pv 4) pe_int (nomark _)) (pss_one (ps_asg (pe_ix (r := rIxL K) ix_list (pe_lst (pa_cons (pe_lst (pa_cons (pe_ix (r := rIxT K) ix_tup (pv 12) pe_int (fun _ _ => rfl)) (pa_cons (pe_ix (r := rIxT K) ix_tup (pv 12) pe_int (fun _ _ => rfl)) pa_nil))) (pa_cons (pe_tup (pa_cons (pe_ix (r := rIxT K) ix_tup (pv 12) pe_int (fun _ _ => rfl)) pa_nil)) (pa_cons (pe_tup (pa_cons (pe_ix (r := rIxT K) ix_tup (pv 12) pe_int (fun _ _ => rfl)) (pa_cons (pe_ix (r := rIxT K) ix_tup (pv 12) pe_int (fun _ _ => rfl)) (pa_cons pe_int pa_nil)))) (pa_cons (pe_ix (r := rIxT K) ix_tup (pv 12) pe_int (fun _ _ => rfl)) (pa_cons (pe_tup pa_nil) (pa_cons pe_non pa_nil))))))) (pe_ix (r := rIxL K) ix_list (pv 5) pe_int (fun _ _ => rfl)) (fun _ _ => rfl)) (pg_sub (pv 9) (pv 11) set_list))) pss_nil)
      ht), ?_⟩
  rintro σ H1 hJ
  simp only [tSeq]
  refine ifs_both (J K a n9 nl d k H [3, 13, 4, 5, 6, 7, 12, 8, 9]) (fun Dn' hD => ?_) (fun σ' H' hP => hq σ' H' hP)
  by_cases hk : k = 9
  · obtain ⟨dl, r, ds, its, pl, i, p, l, it, xs, sp, q, u, v, rfl, hds, k1, hf, hb, ep, ei, hp, hl, hd, spl, exs, hq'⟩ := hJ.i5 (by simp <;> omega) (by omega)
    subst hk
    obtain ⟨d4, hsq, a4, e4, b4, c4⟩ := hds.get (K := K) (i := 4) (by decide) rfl
    have l101 := (hb.len it (List.mem_of_getElem? ei)).2
    have xl := hd.len
    have mi := List.mem_of_getElem? ei
    have pl_ : p ≠ l := hf.cross _ (List.mem_of_getElem? ep) _ (List.mem_of_getElem? ep)
    try simp only [tSeq, tIfS, tTest, tOp, tUn, tCB, tCons, tNil, tVar, tC, rI0, rI, rU, rEq, rNe, tRet, tRetN, tAsg, gName, gSub, tBM, tBM0, tNext, tB, tNot, tAnd, tOr, tIf, tCall, tDrop, tBreak, tCont, L2.start, tDGet, sDPut, tTup, tLst, tDNewK, tRevL, rCat, rAppend, rPop, rSetL, tAndV, tOrV, tNotV, tSl, tPart, tNoPart, tM1, gTup, gCons, gNil, cxK, cxnK, List.map_cons, List.map_nil, List.length_cons, List.length_nil, List.replicate, List.cons_append, List.nil_append, List.append_nil, List.set_cons_zero, List.set_cons_succ, List.getElem?_cons_zero, List.getElem?_cons_succ, Option.some.injEq, V.ref.injEq, V.int.injEq, V.str.injEq, V.bl.injEq, V.ty.injEq, exists_eq_left', exists_eq_left, exists_and_left, List.cons.injEq, and_true, true_and, sc_ii, sc_ss, sc_bb, sc_ni, sc_in, sc_is, sc_si, sc_nn, decide_true, decide_false, reduceCtorEq, Bool.false_eq_true, if_true, if_false, ite_true, ite_false, exists_const, eq_self, false_and, and_false, or_false, false_or, exists_false, Evl.rLenS, rSum, wipe, tYes, exists_eq, exists_eq', rIxL, rIxT, rIxS, exists_and_right, gt_iff_lt, not_true_eq_false, not_false_eq_true, Bool.not_true, Bool.not_false, decide_eq_true_eq, Nat.reduceSub, Nat.reduceAdd, List.append_assoc, tChain, tDIn, tDNotIn, sDDel, tAug, ipI]
    refine ⟨_, sq_t hq', _, rfl, _, sq_t hq', _, rfl, by decide, fun p1 np1 => ?_⟩
    have k2 : Kp [] H1 (upd H1 p1 (.lst [.int u, .int v])) := Kp.new np1
    have h2 : (upd H1 p1 (.lst [.int u, .int v])) p1 = some (.lst [.int u, .int v]) := upd_same
    generalize (upd H1 p1 (.lst [.int u, .int v])) = H2 at k2 h2 ⊢
    refine ⟨_, sq_t (k2 _ _ not0 hq'), _, rfl, by decide, fun p2 np2 => ?_⟩
    have k3 : Kp [] H2 (upd H2 p2 (.tup [.int u])) := Kp.new np2
    have h3 : (upd H2 p2 (.tup [.int u])) p2 = some (.tup [.int u]) := upd_same
    generalize (upd H2 p2 (.tup [.int u])) = H3 at k3 h3 ⊢
    refine ⟨_, sq_t ((k2.trans k3) _ _ not0 hq'), _, rfl, _, sq_t ((k2.trans k3) _ _ not0 hq'), _, rfl, by decide, fun p3 np3 => ?_⟩
    have k4 : Kp [] H3 (upd H3 p3 (.tup [.int u, .int v, .int 0])) := Kp.new np3
    have h4 : (upd H3 p3 (.tup [.int u, .int v, .int 0])) p3 = some (.tup [.int u, .int v, .int 0]) := upd_same
    generalize (upd H3 p3 (.tup [.int u, .int v, .int 0])) = H4 at k4 h4 ⊢
    refine ⟨_, sq_t (((k2.trans k3).trans k4) _ _ not0 hq'), _, rfl, by decide, fun p4 np4 => ⟨by decide, fun p5 np5 => ?_⟩⟩
    have k5 : Kp [] H4 (upd (upd H4 p4 (.tup [])) p5 (.lst [.ref p1, .ref p2, .ref p3, .int u, .ref p4, .non])) := (Kp.new np4).trans (Kp.new np5)
    have h5 : (upd (upd H4 p4 (.tup [])) p5 (.lst [.ref p1, .ref p2, .ref p3, .int u, .ref p4, .non])) p5 = some (.lst [.ref p1, .ref p2, .ref p3, .int u, .ref p4, .non]) := upd_same
    have h54 : (upd (upd H4 p4 (.tup [])) p5 (.lst [.ref p1, .ref p2, .ref p3, .int u, .ref p4, .non])) p4 = some (.tup []) := (Kp.new (S := []) np5) _ _ not0 upd_same
    generalize (upd (upd H4 p4 (.tup [])) p5 (.lst [.ref p1, .ref p2, .ref p3, .int u, .ref p4, .non])) = H5 at k5 h5 h54 ⊢
    have k25 := ((k2.trans k3).trans k4).trans k5
    have hll := k25 _ _ not0 hl
    have n1 : p1 ≠ l := Ne.symm (ne_of_none hl np1)
    have n2 : p2 ≠ l := Ne.symm (ne_of_none (k2 _ _ not0 hl) np2)
    have n3 : p3 ≠ l := Ne.symm (ne_of_none ((k2.trans k3) _ _ not0 hl) np3)
    have n4 : p4 ≠ l := Ne.symm (ne_of_none (((k2.trans k3).trans k4) _ _ not0 hl) np4)
    have vsq : ∀ ys, DqAll (upd H5 l (.lst ys)) [.ref p1, .ref p2, .ref p3, .int u, .ref p4, .non] [.list [.int u, .int v], .tuple [.int u], .tuple [.int u, .int v, .int 0], .int u, .tuple [], .none] := fun ys =>
      .cons (.lst (by rw [upd_ne n1]; exact ((k3.trans k4).trans k5) _ _ not0 h2) (.cons (.int _) (.cons (.int _) .nil)))
      (.cons (.tup (by rw [upd_ne n2]; exact (k4.trans k5) _ _ not0 h3) (.cons (.int _) .nil))
      (.cons (.tup (by rw [upd_ne n3]; exact k5 _ _ not0 h4) (.cons (.int _) (.cons (.int _) (.cons (.int _) .nil))))
      (.cons (.int _) (.cons (.tup (by rw [upd_ne n4]; exact h54) .nil) (.cons .non .nil)))))
    obtain ⟨j4, x, ax, hx⟩ : ∃ (j : Nat) (x : V), atI [.ref p1, .ref p2, .ref p3, .int u, .ref p4, .non] d4 = some x ∧ ([.ref p1, .ref p2, .ref p3, .int u, .ref p4, .non] : List V)[j]? = some x := by
      obtain ⟨x, _, ax, _, _⟩ := dq_at (vsq []) b4 c4
      unfold atI at ax
      cases e : ixN ([.ref p1, .ref p2, .ref p3, .int u, .ref p4, .non] : List V).length d4 with
      | none => rw [e] at ax; cases ax
      | some j => rw [e] at ax; exact ⟨j, x, by unfold atI; rw [e]; exact ax, ax⟩
    obtain ⟨dd, edd, gdd⟩ := (vsq (xs.set sp x)).get hx
    have sdd : szD dd = true := by
      have mdd := List.mem_of_getElem? edd
      simp only [List.mem_cons, List.not_mem_nil, or_false] at mdd
      rcases mdd with rfl | rfl | rfl | rfl | rfl | rfl <;> rfl
    refine ⟨_, k25.ls not0 hsq, _, a4, _, _, rfl, sq_l h5, _, ax, _, hll, sp, ixN_of (by omega) (by omega), ?_⟩
    exact hD _ _ (J.done (dn_of (l' := l) (z' := it.1) (xs' := xs.set sp x) (ds' := it.2.set sp dd) hf ep k1 (fun a o _ h2 ea => by rw [upd_ne h2]; exact k25 _ _ not0 ea) (by rw [upd_ne pl_]; exact k25 _ _ not0 hp) upd_same (DqAll.set sp (flatAll (tupUp hll) (hd.kp k25) (hf.flat it mi)) gdd) (hb.good.set ei (sz_set (hb.good.sz it mi) sdd) (by rw [List.length_set]; omega)).fin) (by simp) (by decide))
  · obtain ⟨dl, r, c8, c9, c10, c11, c12, rfl⟩ := hJ.shape
    try simp only [tSeq, tIfS, tTest, tOp, tUn, tCB, tCons, tNil, tVar, tC, rI0, rI, rU, rEq, rNe, tRet, tRetN, tAsg, gName, gSub, tBM, tBM0, tNext, tB, tNot, tAnd, tOr, tIf, tCall, tDrop, tBreak, tCont, L2.start, tDGet, sDPut, tTup, tLst, tDNewK, tRevL, rCat, rAppend, rPop, rSetL, tAndV, tOrV, tNotV, tSl, tPart, tNoPart, tM1, gTup, gCons, gNil, cxK, cxnK, List.map_cons, List.map_nil, List.length_cons, List.length_nil, List.replicate, List.cons_append, List.nil_append, List.append_nil, List.set_cons_zero, List.set_cons_succ, List.getElem?_cons_zero, List.getElem?_cons_succ, Option.some.injEq, V.ref.injEq, V.int.injEq, V.str.injEq, V.bl.injEq, V.ty.injEq, exists_eq_left', exists_eq_left, exists_and_left, List.cons.injEq, and_true, true_and, sc_ii, sc_ss, sc_bb, sc_ni, sc_in, sc_is, sc_si, sc_nn, decide_true, decide_false, reduceCtorEq, Bool.false_eq_true, if_true, if_false, ite_true, ite_false, exists_const, eq_self, false_and, and_false, or_false, false_or, exists_false, Evl.rLenS, rSum, wipe, tYes, exists_eq, exists_eq', rIxL, rIxT, rIxS, exists_and_right, gt_iff_lt, not_true_eq_false, not_false_eq_true, Bool.not_true, Bool.not_false, decide_eq_true_eq, Nat.reduceSub, Nat.reduceAdd, List.append_assoc, tChain, tDIn, tDNotIn, sDDel, tAug, ipI]
    rw [if_neg hk]
    exact hD _ _ (hJ.skip (by simp <;> omega) (by simp))

end
end My

set_option Elab.async false
set_option linter.all false
set_option maxRecDepth 100000
set_option maxHeartbeats 4000000
namespace My
open PySem L2 NdefX StX
section
variable {P : Program} {w : World} {K : PySem.W.Frag} {mg : Str → Option Value} {base : Heap}
theorem sp_q18 {f : Addr} {cdv : Value} {A : Around} {outer : List Env} {s : Shared} {H : Hp} {Q : VK} {E : XK} (T : BtS mg) (hr : Room 3 (A.deeper (PyProof.Rows.envOfC "_law_spoilt" (defScope s_law_spoilt) s.heap.objs.size f cdv)))
    {a n9 nl d : Addr} {k : Int} (qe : EndQ H Q) :
    ∃ t, PSs (cxOf CX0 P w K mg base ["_law_script", "_law_nine", "_law_names_here", "_law_rows_here", "_law_kind", "_law_d", "_law_items", "_law_name", "_law_item", "_law_row", "_law_size", "_law_spot", "_law_pair"] "_law_spoilt" (defScope s_law_spoilt) f cdv A outer s H E).nox ((defBody s_law_spoilt).drop 18) t ∧ ∀ σ H9, J K a n9 nl d k H [3, 13, 4, 5, 6, 7, 12, 8, 9] σ H9 → t { nx := fun _ H' => Q .non H', rt := Q } σ H9 := by
  have hu := hu_of hr
  refine ⟨_, (pss_cons (ps_if (pt_cmpR op_eq (pv 4) pe_int (nomark _)) (pss_cons (ps_set (i := 8) sc_law_spoilt.nd rfl (Or.inl rfl) (pe_ix (r := rIxL K) ix_list (pv 6) (pe_op op_mod (pe_callTy (T := "int") call_int1 (by rfl) T.b_int (by decide +kernel) (pa_cons (pe_ix (r := rIxL K) ix_list (pv 5) pe_int (fun _ _ => rfl)) pa_nil)) (pe_callB (id := "len") (r := Evl.rLenS K) call_len_seq (by rfl) T.b_len PySem.boot_len (pa_cons (pv 6) pa_nil))) (fun _ _ => rfl)))
      (pss_one (ps_asg (pe_op op_cat (pe_ix (r := rIxL K) ix_list (pv 8) pe_int (fun _ _ => rfl)) (pe_lst (pa_cons (pe_tup (pa_cons pe_int (pa_cons pe_int pa_nil))) pa_nil))) (pg_sub (pv 8) pe_int set_list)))) pss_nil)
      (pss_one (ps_ret (pv 6)))), ?_⟩
  rintro σ H1 hJ
  by_cases hk : k = 12
  · subst hk
    obtain ⟨_, dl, r, ds, its, pl, c8, c9, c10, c11, c12, rfl, hds, k1, hf, hg, l1, l101⟩ : I12 a n9 nl d 12 H σ H1 := by
      rcases hJ with ⟨_, n⟩ | ⟨_, _, n⟩ | ⟨h, _⟩
      · exact absurd (by simp) n
      · exact absurd rfl n
      · exact h
    obtain ⟨d5, hsq, a5, e5, b5, c5⟩ := hds.get (K := K) (i := 5) (by decide) rfl
    try simp only [tSeq, tIfS, tTest, tOp, tUn, tCB, tCons, tNil, tVar, tC, rI0, rI, rU, rEq, rNe, tRet, tRetN, tAsg, gName, gSub, tBM, tBM0, tNext, tB, tNot, tAnd, tOr, tIf, tCall, tDrop, tBreak, tCont, L2.start, tDGet, sDPut, tTup, tLst, tDNewK, tRevL, rCat, rAppend, rPop, rSetL, tAndV, tOrV, tNotV, tSl, tPart, tNoPart, tM1, gTup, gCons, gNil, cxK, cxnK, List.map_cons, List.map_nil, List.length_cons, List.length_nil, List.replicate, List.cons_append, List.nil_append, List.append_nil, List.set_cons_zero, List.set_cons_succ, List.getElem?_cons_zero, List.getElem?_cons_succ, Option.some.injEq, V.ref.injEq, V.int.injEq, V.str.injEq, V.bl.injEq, V.ty.injEq, exists_eq_left', exists_eq_left, exists_and_left, List.cons.injEq, and_true, true_and, sc_ii, sc_ss, sc_bb, sc_ni, sc_in, sc_is, sc_si, sc_nn, decide_true, decide_false, reduceCtorEq, Bool.false_eq_true, if_true, if_false, ite_true, ite_false, exists_const, eq_self, false_and, and_false, or_false, false_or, exists_false, Evl.rLenS, rSum, wipe, tYes, exists_eq, exists_eq', rIxL, rIxT, rIxS, exists_and_right, gt_iff_lt, not_true_eq_false, not_false_eq_true, Bool.not_true, Bool.not_false, decide_eq_true_eq, Nat.reduceSub, Nat.reduceAdd, List.append_assoc, tChain, tDIn, tDNotIn, sDDel, tAug, ipI]
    have rl : (pl.map fun q => V.ref q.1).length = its.length := by rw [List.length_map, hf.len]
    obtain ⟨i, ei⟩ : ∃ i : Nat, d5 % ((its.length : Nat) : Int) = (i : Nat) := ⟨(d5 % ((its.length : Nat) : Int)).toNat, by have := Int.emod_nonneg d5 (show ((its.length : Nat) : Int) ≠ 0 by omega); omega⟩
    have ilt : i < its.length := by have := Int.emod_lt_of_pos d5 (show (0 : Int) < (its.length : Nat) by omega); omega
    have eit : its[i]? = some its[i] := List.getElem?_eq_getElem ilt
    generalize its[i] = it at eit
    obtain ⟨p, l, xs, ep, evp, hp, hl, hd⟩ := hf.get eit
    have mi := List.mem_of_getElem? eit
    have ln := l101 it mi
    have xl := hd.len
    refine ⟨_, hsq, _, a5, .inl ⟨d5, rfl, _, .inl (sq_l hf.hr), by omega, _, sq_l hf.hr, .ref p, by rw [rl, ei]; exact atI_nat evp, p, rfl, _, sq_l hp, .ref l, rfl, by decide, fun p1 np1 => ⟨by decide, fun p2 np2 => ?_⟩⟩⟩
    have k2 : Kp [] H1 (upd (upd H1 p1 (.tup [.int 0, .int 0])) p2 (.lst [.ref p1])) := (Kp.new np1).trans (Kp.new np2)
    have h2 : (upd (upd H1 p1 (.tup [.int 0, .int 0])) p2 (.lst [.ref p1])) p2 = some (.lst [.ref p1]) := upd_same
    have h1 : (upd (upd H1 p1 (.tup [.int 0, .int 0])) p2 (.lst [.ref p1])) p1 = some (.tup [.int 0, .int 0]) := (Kp.new (S := []) np2) _ _ not0 upd_same
    generalize (upd (upd H1 p1 (.tup [.int 0, .int 0])) p2 (.lst [.ref p1])) = H2 at k2 h2 h1 ⊢
    refine ⟨l, rfl, _, k2 _ _ not0 hl, _, h2, small (by show _ + 1 ≤ _; omega), fun p3 np3 => ?_⟩
    have k3 : Kp [] H2 (upd H2 p3 (.lst (xs ++ [.ref p1]))) := Kp.new np3
    have h3 : (upd H2 p3 (.lst (xs ++ [.ref p1]))) p3 = some (.lst (xs ++ [.ref p1])) := upd_same
    have p3p : p3 ≠ p := Ne.symm (ne_of_none (k2 _ _ not0 hp) np3)
    generalize (upd H2 p3 (.lst (xs ++ [.ref p1]))) = H3 at k3 h3 ⊢
    have hpp := (k2.trans k3) _ _ not0 hp
    refine ⟨p, rfl, _, hpp, 1, ixN_of (by decide) (show (1 : Int) < 2 by decide), ?_⟩
    have fl : (it.2 ++ [cellD (0, 0)]).all flatD = true := by rw [List.all_append, hf.flat it mi]; rfl
    have sz : szAll (it.2 ++ [cellD (0, 0)]) = true := szAll_of fun x hx => (List.mem_append.mp hx).elim (szAll_mem (hg.sz it mi) x) fun h => by rw [List.mem_singleton.mp h]; rfl
    have gd := hg.set (ds' := it.2 ++ [cellD (0, 0)]) eit sz (by rw [List.length_append]; show _ + 1 ≤ 200; omega)
    have up : ∀ a o, a ≠ p → a ≠ l → H1 a = some o → (upd H3 p (.lst ([V.str it.1, .ref l].set 1 (.ref p3)))) a = some o := fun a o h1 _ ea => by rw [upd_ne h1]; exact (k2.trans k3) _ _ not0 ea
    refine qe r _ _ hf.nr (hf.chg (l' := p3) (z' := it.1) (xs' := xs ++ [.ref p1]) (ds' := it.2 ++ [cellD (0, 0)]) ep up upd_same (by rw [upd_ne p3p]; exact h3) (flatAll (tupUp hpp) (DqAll.app (hd.kp (k2.trans k3)) (.cons (.tup (k3 _ _ not0 h1) (.cons (.int _) (.cons (.int _) .nil))) .nil)) fl)) gd.fin fun b o _ eb => up b o (fun w => by rw [w, (hf.new _ (List.mem_of_getElem? ep)).1] at eb; cases eb) (fun w => by rw [w, (hf.new _ (List.mem_of_getElem? ep)).2.1] at eb; cases eb) (k1 _ _ not0 eb)
  · have hE : ∃ (dl r : Addr) (its : List (Str × List PyData)) (c8 c9 c10 c11 c12 : Option V), σ = [some (.ref a), some (.ref n9), some (.ref nl), some (.ref d), some (.int k), some (.ref dl), some (.ref r), none, c8, c9, c10, c11, c12] ∧ H r = none ∧ Items H1 r its ∧ EndI its ∧ Kp [] H H1 := by
      rcases hJ with ⟨⟨dl, r, ds, its, pl, i, p, l, it, xs, sp, q, u, v, rfl, hds, k1, hf, hb, _⟩, _⟩ | ⟨h, _⟩ | ⟨⟨h, _⟩, _⟩
      · exact ⟨_, _, _, _, _, _, _, _, rfl, hf.nr, hf.items, hb.good.fin, k1⟩
      · exact h
      · exact absurd h hk
    obtain ⟨dl, r, its, c8, c9, c10, c11, c12, rfl, nr, hi, he, k1⟩ := hE
    try simp only [tSeq, tIfS, tTest, tOp, tUn, tCB, tCons, tNil, tVar, tC, rI0, rI, rU, rEq, rNe, tRet, tRetN, tAsg, gName, gSub, tBM, tBM0, tNext, tB, tNot, tAnd, tOr, tIf, tCall, tDrop, tBreak, tCont, L2.start, tDGet, sDPut, tTup, tLst, tDNewK, tRevL, rCat, rAppend, rPop, rSetL, tAndV, tOrV, tNotV, tSl, tPart, tNoPart, tM1, gTup, gCons, gNil, cxK, cxnK, List.map_cons, List.map_nil, List.length_cons, List.length_nil, List.replicate, List.cons_append, List.nil_append, List.append_nil, List.set_cons_zero, List.set_cons_succ, List.getElem?_cons_zero, List.getElem?_cons_succ, Option.some.injEq, V.ref.injEq, V.int.injEq, V.str.injEq, V.bl.injEq, V.ty.injEq, exists_eq_left', exists_eq_left, exists_and_left, List.cons.injEq, and_true, true_and, sc_ii, sc_ss, sc_bb, sc_ni, sc_in, sc_is, sc_si, sc_nn, decide_true, decide_false, reduceCtorEq, Bool.false_eq_true, if_true, if_false, ite_true, ite_false, exists_const, eq_self, false_and, and_false, or_false, false_or, exists_false, Evl.rLenS, rSum, wipe, tYes, exists_eq, exists_eq', rIxL, rIxT, rIxS, exists_and_right, gt_iff_lt, not_true_eq_false, not_false_eq_true, Bool.not_true, Bool.not_false, decide_eq_true_eq, Nat.reduceSub, Nat.reduceAdd, List.append_assoc, tChain, tDIn, tDNotIn, sDDel, tAug, ipI]
    rw [if_neg hk]
    exact qe r its H1 nr hi he k1
def spSpoilt (K : PySem.W.Frag) : Sp := fun vs H Q _ => ∃ (a n9 nl d : Addr) (k : Int) (ns : List Int) (z9 : List Str) (many m : Nat) (c : Str → Nat → Int × Int), vs = [.ref a, .ref n9, .ref nl, .ref d, .int k] ∧ SpIn K a n9 nl d k ns z9 many m c H ∧ EndQ H Q
theorem ok_law_spoilt {f : Addr} {fd : FuncData} (D : Df K mg "_law_spoilt" s_law_spoilt ["_law_script", "_law_nine", "_law_names_here", "_law_rows_here", "_law_kind"] f fd) (T : BtS mg) {g1 : Addr} {gd1 : FuncData} (D_law_draws : Df K mg "_law_draws" s_law_draws ["_law_script", "_law_at", "_law_bounds"] g1 gd1) (G_law_draws : FnOk P w K mg base CX0 2 g1 gd1 ["_law_script", "_law_at", "_law_bounds"] (spDraws K)) : FnOk P w K mg base CX0 4 f fd ["_law_script", "_law_nine", "_law_names_here", "_law_rows_here", "_law_kind"] (spSpoilt K) := by
  refine D.F.ok sc_law_spoilt (fun vs H Q E h => ?_) (fun cdv A outer s H vs Q E hr h => ?_)
  · obtain ⟨_, _, _, _, _, _, _, _, _, _, rfl, _⟩ := h
    rfl
  · obtain ⟨a, n9, nl, d, k, ns, z9, many, m, c, rfl, hI, qe⟩ := h
    have hr3 : Room 3 (A.deeper (PyProof.Rows.envOfC "_law_spoilt" (defScope s_law_spoilt) s.heap.objs.size f cdv)) := hr
    obtain ⟨t18, h18, q18⟩ := sp_q18 (P := P) (w := w) (K := K) (mg := mg) (base := base) (E := E) (outer := outer) (a := a) (n9 := n9) (nl := nl) (d := d) (k := k) T hr3 qe
    obtain ⟨t17, h17, q17⟩ := sp_q17 T hr3 h18 q18
    obtain ⟨t16, h16, q16⟩ := sp_q16 T hr3 h17 q17
    obtain ⟨t15, h15, q15⟩ := sp_q15 T hr3 h16 q16
    obtain ⟨t14, h14, q14⟩ := sp_q14 T hr3 h15 q15
    obtain ⟨t13, h13, q13⟩ := sp_q13 T hr3 h14 q14
    obtain ⟨t12, h12, q12⟩ := sp_q12 T hr3 h13 q13
    obtain ⟨t11, h11, q11⟩ := sp_q11 T hr3 h12 q12
    obtain ⟨t5, h5, q5⟩ := sp_p5 (ns := ns) (z9 := z9) (many := many) (m := m) (c := c) T hr3 qe h11 (fun σ H9 h => q11 σ H9 (.inl ⟨h, by simp⟩))
    obtain ⟨t4, h4, q4⟩ := sp_p4 T hr3 h5 q5
    obtain ⟨t3, h3, q3⟩ := sp_p3 T hr3 h4 q4
    obtain ⟨t2, h2, q2⟩ := sp_p2 T hr3 h3 q3
    exact sp_p1 T hr3 D_law_draws G_law_draws hI h2 q2
end
end My

set_option Elab.async false
set_option linter.all false
set_option maxRecDepth 100000
set_option maxHeartbeats 4000000
namespace My
open PySem L2 NdefX StX
abbrev s_law : Stmt := top 43
theorem sc_law : FnScope ["_law_script", "_law_d", "_law_many", "_law_size", "_law_start", "_law_nine", "_law_names_here", "_law_rows_here", "_law_calls_here", "_law_handed", "_law_name", "_law_plain", "_law_table", "_law_spot", "_law_chosen", "_law_begun", "_law_items"] ["_law_script"] (defScope s_law) := ⟨rfl, rfl, rfl, by decide +kernel, rfl, by decide +kernel, by decide +kernel⟩
def bL : List Int := [6, 5, 8, 100, 3, 100, 14, 6, 1000000000, 6, 2, 8]
def Bs (K : PySem.W.Frag) (a dl : Addr) (ns ds : List Int) (H : Hp) : Prop := H dl = some (.lst (ds.map V.int)) ∧ DrawOk bL ds ∧ Scr K H a ns
theorem Bs.get {K : PySem.W.Frag} {a dl : Addr} {ns ds : List Int} {H : Hp} (h : Bs K a dl ns ds H) {i : Nat} (hi : i < 12) {b : Int} (eb : bL[i]? = some b) : ∃ d : Int, SqL K H dl (ds.map V.int) ∧ atI (ds.map V.int) (i : Nat) = some (.int d) ∧ ds[i]? = some d ∧ 0 ≤ d ∧ d < b := by
  obtain ⟨hd, ho, _⟩ := h
  have l : i < ds.length := by rw [ho.1]; exact hi
  have e : ds[i]? = some ds[i] := List.getElem?_eq_getElem l
  exact ⟨ds[i], sq_l hd, atI_of (by omega) (by rw [Int.toNat_natCast, List.getElem?_map, e]; rfl), e, ho.2 i _ _ e eb⟩
theorem Bs.kp {K : PySem.W.Frag} {a dl : Addr} {ns ds : List Int} {H H' : Hp} (h : Bs K a dl ns ds H) (k : Kp [] H H') : Bs K a dl ns ds H' := ⟨k _ _ not0 h.1, h.2.1, ⟨k.ls not0 h.2.2.1, h.2.2.2⟩⟩
def S1 (K : PySem.W.Frag) (a : Addr) (ns : List Int) (σ : L2.St) (H : Hp) : Prop := ∃ (dl : Addr) (ds : List Int), σ = [some (.ref a), some (.ref dl), none, none, none, none, none, none, none, none, none, none, none, none, none, none, none] ∧ Bs K a dl ns ds H
def S3 (K : PySem.W.Frag) (a : Addr) (ns : List Int) (σ : L2.St) (H : Hp) : Prop := ∃ (dl : Addr) (ds : List Int) (u m : Nat), σ = [some (.ref a), some (.ref dl), some (.int (u : Nat)), some (.int (m : Nat)), none, none, none, none, none, none, none, none, none, none, none, none, none] ∧ Bs K a dl ns ds H ∧ 1 ≤ u ∧ u ≤ 6 ∧ 1 ≤ m ∧ m ≤ 100
def S6 (K : PySem.W.Frag) (a : Addr) (ns : List Int) (σ : L2.St) (H : Hp) : Prop := ∃ (dl n9 : Addr) (ds : List Int) (u m : Nat) (st : Int) (z9 : List Str), σ = [some (.ref a), some (.ref dl), some (.int (u : Nat)), some (.int (m : Nat)), some (.int st), some (.ref n9), none, none, none, none, none, none, none, none, none, none, none] ∧ Bs K a dl ns ds H ∧ 1 ≤ u ∧ u ≤ 6 ∧ 1 ≤ m ∧ m ≤ 100 ∧ 0 ≤ st ∧ st < (m : Nat) ∧ H n9 = some (.lst (z9.map V.str)) ∧ z9.length = 9 ∧ z9.Nodup ∧ ∀ z ∈ z9, nameS z = true
/-- what stands since the calls were drawn -/
structure LB (K : PySem.W.Frag) (a dl n9 nl d cl : Addr) (ns ds : List Int) (z9 : List Str) (u m : Nat) (st : Int) (cs : List Str) (c : Str → Nat → Int × Int) (H : Hp) : Prop where
  bs : Bs K a dl ns ds H
  u1 : 1 ≤ u
  u6 : u ≤ 6
  m1 : 1 ≤ m
  m100 : m ≤ 100
  s0 : 0 ≤ st
  s1 : st < (m : Nat)
  h9 : H n9 = some (.lst (z9.map V.str))
  l9 : z9.length = 9
  nd : z9.Nodup
  nm : ∀ z ∈ z9, nameS z = true
  hn : H nl = some (.lst ((z9.take u).map V.str))
  rw_ : RwAt H d (z9.take u) m c
  cb : CellB (z9.take u) m 10 c
  hc : H cl = some (.lst (cs.map V.str))
  c100 : cs.length ≤ 100
  cm : ∀ z ∈ cs, z ∈ z9.take u
theorem LB.kp {K : PySem.W.Frag} {a dl n9 nl d cl : Addr} {ns ds : List Int} {z9 : List Str} {u m : Nat} {st : Int} {cs : List Str} {c : Str → Nat → Int × Int} {H H' : Hp} (h : LB K a dl n9 nl d cl ns ds z9 u m st cs c H) (k : Kp [] H H') : LB K a dl n9 nl d cl ns ds z9 u m st cs c H' :=
  { h with bs := h.bs.kp k, h9 := k _ _ not0 h.h9, hn := k _ _ not0 h.hn, rw_ := h.rw_.kp k, hc := k _ _ not0 h.hc }
def S9 (K : PySem.W.Frag) (a : Addr) (ns : List Int) (σ : L2.St) (H : Hp) : Prop := ∃ (dl n9 nl d cl : Addr) (ds : List Int) (z9 : List Str) (u m : Nat) (st : Int) (cs : List Str) (c : Str → Nat → Int × Int), σ = [some (.ref a), some (.ref dl), some (.int (u : Nat)), some (.int (m : Nat)), some (.int st), some (.ref n9), some (.ref nl), some (.ref d), some (.ref cl), none, none, none, none, none, none, none, none] ∧ LB K a dl n9 nl d cl ns ds z9 u m st cs c H
/-- the handed rows are all new -/
def HandAt (Hr H : Hp) (h : Addr) (zs : List Str) (m : Nat) (c : Str → Nat → Int × Int) : Prop := RwAt H h zs m c ∧ Hr h = none ∧ ∀ kvs, H h = some (.dK kvs) → ∀ k v, (k, v) ∈ kvs → ∃ l, v = .ref l ∧ Hr l = none
def S11 (K : PySem.W.Frag) (a : Addr) (ns : List Int) (σ : L2.St) (H : Hp) : Prop := ∃ (dl n9 nl d cl h : Addr) (ds : List Int) (z9 : List Str) (u m : Nat) (st : Int) (cs : List Str) (c : Str → Nat → Int × Int) (c10 : Option V) (Hr : Hp), σ = [some (.ref a), some (.ref dl), some (.int (u : Nat)), some (.int (m : Nat)), some (.int st), some (.ref n9), some (.ref nl), some (.ref d), some (.ref cl), some (.ref h), c10, none, none, none, none, none, none] ∧ LB K a dl n9 nl d cl ns ds z9 u m st cs c Hr ∧ Kp [] Hr H ∧ HandAt Hr H h (z9.take u) m c
structure BtV (mg : Str → Option Value) : Prop where
  b_int : mg "int" = none
  b_list : mg "list" = none
theorem pick3 {x0 x1 x2 k : Int} (k0 : 0 ≤ k) (k3 : k < 3) (h0 : 1 ≤ x0 ∧ x0 ≤ 100) (h1 : 1 ≤ x1 ∧ x1 ≤ 100) (h2 : 1 ≤ x2 ∧ x2 ≤ 100) : ∃ m : Nat, atI [V.int x0, V.int x1, V.int x2] k = some (.int (m : Nat)) ∧ 1 ≤ m ∧ m ≤ 100 := by
  have nat : ∀ x : Int, 1 ≤ x ∧ x ≤ 100 → ∃ m : Nat, x = (m : Nat) ∧ 1 ≤ m ∧ m ≤ 100 := fun x h => ⟨x.toNat, by omega, by omega, by omega⟩
  have : k = 0 ∨ k = 1 ∨ k = 2 := by omega
  rcases this with e | e | e
  · obtain ⟨m, em, b⟩ := nat x0 h0
    exact ⟨m, by rw [e, em]; rfl, b⟩
  · obtain ⟨m, em, b⟩ := nat x1 h1
    exact ⟨m, by rw [e, em]; rfl, b⟩
  · obtain ⟨m, em, b⟩ := nat x2 h2
    exact ⟨m, by rw [e, em]; rfl, b⟩
section
variable {P : Program} {w : World} {K : PySem.W.Frag} {mg : Str → Option Value} {base : Heap}
theorem law_p1 (T : BtV mg) {f : Addr} {cdv : Value} {A : Around} {outer : List Env} {s : Shared} {H : Hp} {Q : VK} {E : XK} (hr : Room 12 (A.deeper (PyProof.Rows.envOfC "law" (defScope s_law) s.heap.objs.size f cdv)))
    {a : Addr} {ns : List Int} {t : TS} (ht : PSs (cxOf CX0 P w K mg base ["_law_script", "_law_d", "_law_many", "_law_size", "_law_start", "_law_nine", "_law_names_here", "_law_rows_here", "_law_calls_here", "_law_handed", "_law_name", "_law_plain", "_law_table", "_law_spot", "_law_chosen", "_law_begun", "_law_items"] "law" (defScope s_law) f cdv A outer s H E).nox ((defBody s_law).drop 3) t) (hq : ∀ σ H9, S3 K a ns σ H9 → t { nx := fun _ H' => Q .non H', rt := Q } σ H9) :
    ∃ t, PSs (cxOf CX0 P w K mg base ["_law_script", "_law_d", "_law_many", "_law_size", "_law_start", "_law_nine", "_law_names_here", "_law_rows_here", "_law_calls_here", "_law_handed", "_law_name", "_law_plain", "_law_table", "_law_spot", "_law_chosen", "_law_begun", "_law_items"] "law" (defScope s_law) f cdv A outer s H E).nox ((defBody s_law).drop 1) t ∧ ∀ σ H9, S1 K a ns σ H9 → t { nx := fun _ H' => Q .non H', rt := Q } σ H9 := by
  have hu := hu_of hr
  refine ⟨_, (pss_cons (ps_set (i := 2) sc_law.nd rfl (Or.inl rfl) (pe_op op_add pe_int (pe_ix (r := rIxL K) ix_list (pv 1) pe_int (fun _ _ => rfl))))
      (pss_cons (ps_set (i := 3) sc_law.nd rfl (Or.inl rfl) (pe_op op_add pe_int (pe_ix (r := rIxL K) ix_list (pv 1) pe_int (fun _ _ => rfl))))
      ht)), ?_⟩
  rintro σ H1 ⟨dl, ds, rfl, hB⟩
  obtain ⟨d0, hsq, a0, e0, b0, c0⟩ := hB.get (i := 0) (by decide) rfl
  obtain ⟨d1, _, a1, e1, b1, c1⟩ := hB.get (i := 1) (by decide) rfl
  try simp only [tSeq, tIfS, tTest, tOp, tUn, tCB, tCons, tNil, tVar, tC, rI0, rI, rU, rEq, rNe, tRet, tRetN, tAsg, gName, gSub, tBM, tBM0, tNext, tB, tNot, tAnd, tOr, tIf, tCall, tDrop, tBreak, tCont, L2.start, tDGet, sDPut, tTup, tLst, tDNewK, tRevL, rCat, rAppend, rPop, rSetL, tAndV, tOrV, tNotV, tSl, tPart, tNoPart, tM1, gTup, gCons, gNil, cxK, cxnK, List.map_cons, List.map_nil, List.length_cons, List.length_nil, List.replicate, List.cons_append, List.nil_append, List.append_nil, List.set_cons_zero, List.set_cons_succ, List.getElem?_cons_zero, List.getElem?_cons_succ, Option.some.injEq, V.ref.injEq, V.int.injEq, V.str.injEq, V.bl.injEq, V.ty.injEq, exists_eq_left', exists_eq_left, exists_and_left, List.cons.injEq, and_true, true_and, sc_ii, sc_ss, sc_bb, sc_ni, sc_in, sc_is, sc_si, sc_nn, decide_true, decide_false, reduceCtorEq, Bool.false_eq_true, if_true, if_false, ite_true, ite_false, exists_const, eq_self, false_and, and_false, or_false, false_or, exists_false, Evl.rLenS, rSum, wipe, tYes, exists_eq, exists_eq', rIxL, rIxT, rIxS, exists_and_right, gt_iff_lt, not_true_eq_false, not_false_eq_true, Bool.not_true, Bool.not_false, decide_eq_true_eq, Nat.reduceSub, Nat.reduceAdd, List.append_assoc, tChain, tDIn, tDNotIn, sDDel, tAug, ipI]
  obtain ⟨u, hu1⟩ : ∃ u : Nat, 1 + d0 = (u : Nat) := ⟨(1 + d0).toNat, by omega⟩
  obtain ⟨m, hm1⟩ : ∃ u : Nat, 1 + d1 = (u : Nat) := ⟨(1 + d1).toNat, by omega⟩
  refine ⟨_, hsq, _, a0, d0, rfl, _, hsq, _, a1, d1, rfl, ?_⟩
  rw [hu1, hm1]
  exact hq _ _ ⟨dl, ds, u, m, rfl, hB, by omega, by omega, by omega, by omega⟩
theorem law_p3 (T : BtV mg) {f : Addr} {cdv : Value} {A : Around} {outer : List Env} {s : Shared} {H : Hp} {Q : VK} {E : XK} (hr : Room 12 (A.deeper (PyProof.Rows.envOfC "law" (defScope s_law) s.heap.objs.size f cdv)))
    {a : Addr} {ns : List Int} {t : TS} (ht : PSs (cxOf CX0 P w K mg base ["_law_script", "_law_d", "_law_many", "_law_size", "_law_start", "_law_nine", "_law_names_here", "_law_rows_here", "_law_calls_here", "_law_handed", "_law_name", "_law_plain", "_law_table", "_law_spot", "_law_chosen", "_law_begun", "_law_items"] "law" (defScope s_law) f cdv A outer s H E).nox ((defBody s_law).drop 4) t) (hq : ∀ σ H9, S3 K a ns σ H9 → t { nx := fun _ H' => Q .non H', rt := Q } σ H9) :
    ∃ t, PSs (cxOf CX0 P w K mg base ["_law_script", "_law_d", "_law_many", "_law_size", "_law_start", "_law_nine", "_law_names_here", "_law_rows_here", "_law_calls_here", "_law_handed", "_law_name", "_law_plain", "_law_table", "_law_spot", "_law_chosen", "_law_begun", "_law_items"] "law" (defScope s_law) f cdv A outer s H E).nox ((defBody s_law).drop 3) t ∧ ∀ σ H9, S3 K a ns σ H9 → t { nx := fun _ H' => Q .non H', rt := Q } σ H9 := by
  have hu := hu_of hr
  refine ⟨_, (pss_cons (ps_if (pt_cmpR op_eq (pe_ix (r := rIxL K) ix_list (pv 1) pe_int (fun _ _ => rfl)) pe_int (nomark _)) (pss_one (ps_set (i := 3) sc_law.nd rfl (Or.inl rfl) (pe_ix (r := rIxL K) ix_list (pe_lst (pa_cons pe_int (pa_cons pe_int (pa_cons (pe_op op_add pe_int (pe_ix (r := rIxL K) ix_list (pv 1) pe_int (fun _ _ => rfl))) pa_nil)))) (pe_ix (r := rIxL K) ix_list (pv 1) pe_int (fun _ _ => rfl)) (fun _ _ => rfl)))) pss_nil)
      ht), ?_⟩
  rintro σ H1 hS
  obtain ⟨dl, ds, u, m, rfl, hB, u1, u6, m1, m100⟩ := id hS
  obtain ⟨d2, hsq, a2, e2, b2, c2⟩ := hB.get (i := 2) (by decide) rfl
  obtain ⟨d3, _, a3, e3, b3, c3⟩ := hB.get (i := 3) (by decide) rfl
  obtain ⟨d4, _, a4, e4, b4, c4⟩ := hB.get (i := 4) (by decide) rfl
  simp only [tSeq]
  refine ifs_both (S3 K a ns) (fun Dn' hD => ?_) (fun σ' H' hP => hq σ' H' hP)
  try simp only [tSeq, tIfS, tTest, tOp, tUn, tCB, tCons, tNil, tVar, tC, rI0, rI, rU, rEq, rNe, tRet, tRetN, tAsg, gName, gSub, tBM, tBM0, tNext, tB, tNot, tAnd, tOr, tIf, tCall, tDrop, tBreak, tCont, L2.start, tDGet, sDPut, tTup, tLst, tDNewK, tRevL, rCat, rAppend, rPop, rSetL, tAndV, tOrV, tNotV, tSl, tPart, tNoPart, tM1, gTup, gCons, gNil, cxK, cxnK, List.map_cons, List.map_nil, List.length_cons, List.length_nil, List.replicate, List.cons_append, List.nil_append, List.append_nil, List.set_cons_zero, List.set_cons_succ, List.getElem?_cons_zero, List.getElem?_cons_succ, Option.some.injEq, V.ref.injEq, V.int.injEq, V.str.injEq, V.bl.injEq, V.ty.injEq, exists_eq_left', exists_eq_left, exists_and_left, List.cons.injEq, and_true, true_and, sc_ii, sc_ss, sc_bb, sc_ni, sc_in, sc_is, sc_si, sc_nn, decide_true, decide_false, reduceCtorEq, Bool.false_eq_true, if_true, if_false, ite_true, ite_false, exists_const, eq_self, false_and, and_false, or_false, false_or, exists_false, Evl.rLenS, rSum, wipe, tYes, exists_eq, exists_eq', rIxL, rIxT, rIxS, exists_and_right, gt_iff_lt, not_true_eq_false, not_false_eq_true, Bool.not_true, Bool.not_false, decide_eq_true_eq, Nat.reduceSub, Nat.reduceAdd, List.append_assoc, tChain, tDIn, tDNotIn, sDDel, tAug, ipI]
  refine ⟨_, hsq, _, a2, rfl, ?_⟩
  refine ite2 (fun _ => ?_) (fun _ => hD _ _ hS)
  refine ⟨_, hsq, _, a3, _, rfl, by decide, fun p np => ?_⟩
  have kp : Kp [] H1 (upd H1 p (.lst [.int 100, .int 99, .int (1 + d3)])) := Kp.new np
  obtain ⟨m', am, m1', m100'⟩ := pick3 (x0 := 100) (x1 := 99) (x2 := 1 + d3) b4 c4 (by omega) (by omega) (by omega)
  refine ⟨_, kp.ls not0 hsq, _, a4, _, _, rfl, sq_l upd_same, _, am, hD _ _ ⟨dl, ds, u, m', rfl, hB.kp kp, u1, u6, m1', m100'⟩⟩
theorem law_p4 (T : BtV mg) {f : Addr} {cdv : Value} {A : Around} {outer : List Env} {s : Shared} {H : Hp} {Q : VK} {E : XK} (hr : Room 12 (A.deeper (PyProof.Rows.envOfC "law" (defScope s_law) s.heap.objs.size f cdv)))
    {g2 : Addr} {gd2 : FuncData} (D_law_names : Df K mg "_law_names" s_law_names ["_law_script", "_law_at", "_law_many"] g2 gd2) (G_law_names : FnOk P w K mg base CX0 3 g2 gd2 ["_law_script", "_law_at", "_law_many"] (spNames K))
    {a : Addr} {ns : List Int} {t : TS} (ht : PSs (cxOf CX0 P w K mg base ["_law_script", "_law_d", "_law_many", "_law_size", "_law_start", "_law_nine", "_law_names_here", "_law_rows_here", "_law_calls_here", "_law_handed", "_law_name", "_law_plain", "_law_table", "_law_spot", "_law_chosen", "_law_begun", "_law_items"] "law" (defScope s_law) f cdv A outer s H E).nox ((defBody s_law).drop 6) t) (hq : ∀ σ H9, S6 K a ns σ H9 → t { nx := fun _ H' => Q .non H', rt := Q } σ H9) :
    ∃ t, PSs (cxOf CX0 P w K mg base ["_law_script", "_law_d", "_law_many", "_law_size", "_law_start", "_law_nine", "_law_names_here", "_law_rows_here", "_law_calls_here", "_law_handed", "_law_name", "_law_plain", "_law_table", "_law_spot", "_law_chosen", "_law_begun", "_law_items"] "law" (defScope s_law) f cdv A outer s H E).nox ((defBody s_law).drop 4) t ∧ ∀ σ H9, S3 K a ns σ H9 → t { nx := fun _ H' => Q .non H', rt := Q } σ H9 := by
  have hu := hu_of hr
  refine ⟨_, (pss_cons (ps_set (i := 4) sc_law.nd rfl (Or.inl rfl) (pe_op op_mod (pe_callTy (T := "int") call_int1 (by rfl) T.b_int (by decide +kernel) (pa_cons (pe_ix (r := rIxL K) ix_list (pv 1) pe_int (fun _ _ => rfl)) pa_nil)) (pv 3)))
      (pss_cons (ps_set (i := 5) sc_law.nd rfl (Or.inl rfl) (pe_call G_law_names (hr.mono (by decide)) rfl D_law_names.g D_law_names.F.kp D_law_names.b .nil pass0 (pa_cons (pv 0) (pa_cons pe_int (pa_cons pe_int pa_nil)))))
      ht)), ?_⟩
  rintro σ H1 ⟨dl, ds, u, m, rfl, hB, u1, u6, m1, m100⟩
  obtain ⟨d5, hsq, a5, e5, b5, c5⟩ := hB.get (i := 5) (by decide) rfl
  try simp only [tSeq, tIfS, tTest, tOp, tUn, tCB, tCons, tNil, tVar, tC, rI0, rI, rU, rEq, rNe, tRet, tRetN, tAsg, gName, gSub, tBM, tBM0, tNext, tB, tNot, tAnd, tOr, tIf, tCall, tDrop, tBreak, tCont, L2.start, tDGet, sDPut, tTup, tLst, tDNewK, tRevL, rCat, rAppend, rPop, rSetL, tAndV, tOrV, tNotV, tSl, tPart, tNoPart, tM1, gTup, gCons, gNil, cxK, cxnK, List.map_cons, List.map_nil, List.length_cons, List.length_nil, List.replicate, List.cons_append, List.nil_append, List.append_nil, List.set_cons_zero, List.set_cons_succ, List.getElem?_cons_zero, List.getElem?_cons_succ, Option.some.injEq, V.ref.injEq, V.int.injEq, V.str.injEq, V.bl.injEq, V.ty.injEq, exists_eq_left', exists_eq_left, exists_and_left, List.cons.injEq, and_true, true_and, sc_ii, sc_ss, sc_bb, sc_ni, sc_in, sc_is, sc_si, sc_nn, decide_true, decide_false, reduceCtorEq, Bool.false_eq_true, if_true, if_false, ite_true, ite_false, exists_const, eq_self, false_and, and_false, or_false, false_or, exists_false, Evl.rLenS, rSum, wipe, tYes, exists_eq, exists_eq', rIxL, rIxT, rIxS, exists_and_right, gt_iff_lt, not_true_eq_false, not_false_eq_true, Bool.not_true, Bool.not_false, decide_eq_true_eq, Nat.reduceSub, Nat.reduceAdd, List.append_assoc, tChain, tDIn, tDNotIn, sDDel, tAug, ipI]
  have s0 := Int.emod_nonneg d5 (show ((m : Nat) : Int) ≠ 0 by omega)
  have s1 := Int.emod_lt_of_pos d5 (show (0 : Int) < (m : Nat) by omega)
  refine ⟨_, hsq, _, a5, .inl ⟨d5, rfl, by omega, ?_⟩⟩
  refine ⟨a, 1, 9, ns, rfl, hB.2.2, by decide, by decide, by decide, fun n9 z9 H2 nn9 hn9 l9 nm nd k2 => ?_⟩
  exact hq _ _ ⟨dl, n9, ds, u, m, _, z9, rfl, hB.kp k2, u1, u6, m1, m100, s0, s1, hn9, l9, nd, nm⟩
theorem law_p6 (T : BtV mg) {f : Addr} {cdv : Value} {A : Around} {outer : List Env} {s : Shared} {H : Hp} {Q : VK} {E : XK} (hr : Room 12 (A.deeper (PyProof.Rows.envOfC "law" (defScope s_law) s.heap.objs.size f cdv)))
    {f1 : Addr} {fd1 : FuncData} (D_law_rows : Df K mg "_law_rows" s_law_rows ["_law_script", "_law_at", "_law_names_here", "_law_size", "_law_most"] f1 fd1) (G_law_rows : FnOk P w K mg base CX0 3 f1 fd1 ["_law_script", "_law_at", "_law_names_here", "_law_size", "_law_most"] (spRows K))
    {f2 : Addr} {fd2 : FuncData} (D_law_calls : Df K mg "_law_calls" s_law_calls ["_law_script", "_law_names_here"] f2 fd2) (G_law_calls : FnOk P w K mg base CX0 3 f2 fd2 ["_law_script", "_law_names_here"] (spCalls K))
    {a : Addr} {ns : List Int} {t : TS} (ht : PSs (cxOf CX0 P w K mg base ["_law_script", "_law_d", "_law_many", "_law_size", "_law_start", "_law_nine", "_law_names_here", "_law_rows_here", "_law_calls_here", "_law_handed", "_law_name", "_law_plain", "_law_table", "_law_spot", "_law_chosen", "_law_begun", "_law_items"] "law" (defScope s_law) f cdv A outer s H E).nox ((defBody s_law).drop 9) t) (hq : ∀ σ H9, S9 K a ns σ H9 → t { nx := fun _ H' => Q .non H', rt := Q } σ H9) :
    ∃ t, PSs (cxOf CX0 P w K mg base ["_law_script", "_law_d", "_law_many", "_law_size", "_law_start", "_law_nine", "_law_names_here", "_law_rows_here", "_law_calls_here", "_law_handed", "_law_name", "_law_plain", "_law_table", "_law_spot", "_law_chosen", "_law_begun", "_law_items"] "law" (defScope s_law) f cdv A outer s H E).nox ((defBody s_law).drop 6) t ∧ ∀ σ H9, S6 K a ns σ H9 → t { nx := fun _ H' => Q .non H', rt := Q } σ H9 := by
  have hu := hu_of hr
  refine ⟨_, (pss_cons (ps_set (i := 6) sc_law.nd rfl (Or.inl rfl) (pe_slice sl_list (pv 5) po_none (po_some (pv 2))))
      (pss_cons (ps_set (i := 7) sc_law.nd rfl (Or.inl rfl) (pe_call G_law_rows (hr.mono (by decide)) rfl D_law_rows.g D_law_rows.F.kp D_law_rows.b .nil pass0 (pa_cons (pv 0) (pa_cons pe_int (pa_cons (pv 6) (pa_cons (pv 3) (pa_cons pe_int pa_nil)))))))
      (pss_cons (ps_set (i := 8) sc_law.nd rfl (Or.inl rfl) (pe_call G_law_calls (hr.mono (by decide)) rfl D_law_calls.g D_law_calls.F.kp D_law_calls.b .nil pass0 (pa_cons (pv 0) (pa_cons (pv 6) pa_nil))))
      ht))), ?_⟩
  rintro σ H1 ⟨dl, n9, ds, u, m, st, z9, rfl, hB, u1, u6, m1, m100, s0, s1, h9, l9, nd, nm⟩
  try simp only [tSeq, tIfS, tTest, tOp, tUn, tCB, tCons, tNil, tVar, tC, rI0, rI, rU, rEq, rNe, tRet, tRetN, tAsg, gName, gSub, tBM, tBM0, tNext, tB, tNot, tAnd, tOr, tIf, tCall, tDrop, tBreak, tCont, L2.start, tDGet, sDPut, tTup, tLst, tDNewK, tRevL, rCat, rAppend, rPop, rSetL, tAndV, tOrV, tNotV, tSl, tPart, tNoPart, tM1, gTup, gCons, gNil, cxK, cxnK, List.map_cons, List.map_nil, List.length_cons, List.length_nil, List.replicate, List.cons_append, List.nil_append, List.append_nil, List.set_cons_zero, List.set_cons_succ, List.getElem?_cons_zero, List.getElem?_cons_succ, Option.some.injEq, V.ref.injEq, V.int.injEq, V.str.injEq, V.bl.injEq, V.ty.injEq, exists_eq_left', exists_eq_left, exists_and_left, List.cons.injEq, and_true, true_and, sc_ii, sc_ss, sc_bb, sc_ni, sc_in, sc_is, sc_si, sc_nn, decide_true, decide_false, reduceCtorEq, Bool.false_eq_true, if_true, if_false, ite_true, ite_false, exists_const, eq_self, false_and, and_false, or_false, false_or, exists_false, Evl.rLenS, rSum, wipe, tYes, exists_eq, exists_eq', rIxL, rIxT, rIxS, exists_and_right, gt_iff_lt, not_true_eq_false, not_false_eq_true, Bool.not_true, Bool.not_false, decide_eq_true_eq, Nat.reduceSub, Nat.reduceAdd, List.append_assoc, tChain, tDIn, tDNotIn, sDDel, tAug, ipI]
  refine ⟨n9, _, rfl, sq_l h9, fun nl nnl => ?_⟩
  have k2 : Kp [] H1 (upd H1 nl (.lst (cutV (z9.map V.str) none (some (u : Nat))))) := Kp.new nnl
  have hnl : (upd H1 nl (.lst (cutV (z9.map V.str) none (some (u : Nat))))) nl = some (.lst ((z9.take u).map V.str)) := by
    rw [upd_same, cut_0j]
  generalize (upd H1 nl (.lst (cutV (z9.map V.str) none (some (u : Nat))))) = H2 at k2 hnl ⊢
  have zl : (z9.take u).length = u := by rw [List.length_take, l9]; omega
  have ndz : (z9.take u).Nodup := nd.sublist (List.take_sublist _ _)
  have hB2 := hB.kp k2
  refine ⟨a, nl, 2, m, 10, ns, z9.take u, rfl, hB2.2.2, by decide, hnl, ndz, by omega, m1, m100, by decide, by decide, fun d c H3 nd3 hr3 hb3 k3 => ?_⟩
  try simp only [tSeq, tIfS, tTest, tOp, tUn, tCB, tCons, tNil, tVar, tC, rI0, rI, rU, rEq, rNe, tRet, tRetN, tAsg, gName, gSub, tBM, tBM0, tNext, tB, tNot, tAnd, tOr, tIf, tCall, tDrop, tBreak, tCont, L2.start, tDGet, sDPut, tTup, tLst, tDNewK, tRevL, rCat, rAppend, rPop, rSetL, tAndV, tOrV, tNotV, tSl, tPart, tNoPart, tM1, gTup, gCons, gNil, cxK, cxnK, List.map_cons, List.map_nil, List.length_cons, List.length_nil, List.replicate, List.cons_append, List.nil_append, List.append_nil, List.set_cons_zero, List.set_cons_succ, List.getElem?_cons_zero, List.getElem?_cons_succ, Option.some.injEq, V.ref.injEq, V.int.injEq, V.str.injEq, V.bl.injEq, V.ty.injEq, exists_eq_left', exists_eq_left, exists_and_left, List.cons.injEq, and_true, true_and, sc_ii, sc_ss, sc_bb, sc_ni, sc_in, sc_is, sc_si, sc_nn, decide_true, decide_false, reduceCtorEq, Bool.false_eq_true, if_true, if_false, ite_true, ite_false, exists_const, eq_self, false_and, and_false, or_false, false_or, exists_false, Evl.rLenS, rSum, wipe, tYes, exists_eq, exists_eq', rIxL, rIxT, rIxS, exists_and_right, gt_iff_lt, not_true_eq_false, not_false_eq_true, Bool.not_true, Bool.not_false, decide_eq_true_eq, Nat.reduceSub, Nat.reduceAdd, List.append_assoc, tChain, tDIn, tDNotIn, sDDel, tAug, ipI]
  have hB3 := hB2.kp k3
  have hnl3 := k3 _ _ not0 hnl
  refine ⟨a, nl, ns, z9.take u, rfl, hB3.2.2, hnl3, by omega, by omega, fun cl cs H4 ncl hcl c100 cm k4 => ?_⟩
  exact hq _ _ ⟨dl, n9, nl, d, cl, ds, z9, u, m, st, cs, c, rfl, hB3.kp k4, u1, u6, m1, m100, s0, s1, ((k2.trans k3).trans k4) _ _ not0 h9, l9, nd, nm, k4 _ _ not0 hnl3, hr3.kp k4, hb3, hcl, c100, cm⟩
theorem law_p9 (T : BtV mg) {f : Addr} {cdv : Value} {A : Around} {outer : List Env} {s : Shared} {H : Hp} {Q : VK} {E : XK} (hr : Room 12 (A.deeper (PyProof.Rows.envOfC "law" (defScope s_law) s.heap.objs.size f cdv)))
    {a : Addr} {ns : List Int} {t : TS} (ht : PSs (cxOf CX0 P w K mg base ["_law_script", "_law_d", "_law_many", "_law_size", "_law_start", "_law_nine", "_law_names_here", "_law_rows_here", "_law_calls_here", "_law_handed", "_law_name", "_law_plain", "_law_table", "_law_spot", "_law_chosen", "_law_begun", "_law_items"] "law" (defScope s_law) f cdv A outer s H E).nox ((defBody s_law).drop 11) t) (hq : ∀ σ H9, S11 K a ns σ H9 → t { nx := fun _ H' => Q .non H', rt := Q } σ H9) :
    ∃ t, PSs (cxOf CX0 P w K mg base ["_law_script", "_law_d", "_law_many", "_law_size", "_law_start", "_law_nine", "_law_names_here", "_law_rows_here", "_law_calls_here", "_law_handed", "_law_name", "_law_plain", "_law_table", "_law_spot", "_law_chosen", "_law_begun", "_law_items"] "law" (defScope s_law) f cdv A outer s H E).nox ((defBody s_law).drop 9) t ∧ ∀ σ H9, S9 K a ns σ H9 → t { nx := fun _ H' => Q .non H', rt := Q } σ H9 := by
  have hu := hu_of hr
  refine ⟨_, (pss_cons (ps_set (i := 9) sc_law.nd rfl (Or.inl rfl) pe_dnewK)
      (pss_cons (ps_for PassesOwn.never rfl (pi_list (pv 6)) (pg_name (i := 10) sc_law.nd rfl (Or.inl rfl)) (pss_one (ps_dput hu (pv 9) (pv 10) (pe_callTy call_list_of (by rfl) T.b_list (by decide +kernel) (pa_cons (pe_dget hu (pv 7) (pv 10) (fun _ _ => rfl)) pa_nil)) rfl)))
      ht)), ?_⟩
  rintro σ Hr ⟨dl, n9, nl, d, cl, ds, z9, u, m, st, cs, c, rfl, hL⟩
  try simp only [tSeq, tIfS, tTest, tOp, tUn, tCB, tCons, tNil, tVar, tC, rI0, rI, rU, rEq, rNe, tRet, tRetN, tAsg, gName, gSub, tBM, tBM0, tNext, tB, tNot, tAnd, tOr, tIf, tCall, tDrop, tBreak, tCont, L2.start, tDGet, sDPut, tTup, tLst, tDNewK, tRevL, rCat, rAppend, rPop, rSetL, tAndV, tOrV, tNotV, tSl, tPart, tNoPart, tM1, gTup, gCons, gNil, cxK, cxnK, List.map_cons, List.map_nil, List.length_cons, List.length_nil, List.replicate, List.cons_append, List.nil_append, List.append_nil, List.set_cons_zero, List.set_cons_succ, List.getElem?_cons_zero, List.getElem?_cons_succ, Option.some.injEq, V.ref.injEq, V.int.injEq, V.str.injEq, V.bl.injEq, V.ty.injEq, exists_eq_left', exists_eq_left, exists_and_left, List.cons.injEq, and_true, true_and, sc_ii, sc_ss, sc_bb, sc_ni, sc_in, sc_is, sc_si, sc_nn, decide_true, decide_false, reduceCtorEq, Bool.false_eq_true, if_true, if_false, ite_true, ite_false, exists_const, eq_self, false_and, and_false, or_false, false_or, exists_false, Evl.rLenS, rSum, wipe, tYes, exists_eq, exists_eq', rIxL, rIxT, rIxS, exists_and_right, gt_iff_lt, not_true_eq_false, not_false_eq_true, Bool.not_true, Bool.not_false, decide_eq_true_eq, Nat.reduceSub, Nat.reduceAdd, List.append_assoc, tChain, tDIn, tDNotIn, sDDel, tAug, ipI]
  intro r nr
  have kr : Kp [] Hr (upd Hr r (.dK [])) := Kp.new nr
  have ndz : (z9.take u).Nodup := hL.nd.sublist (List.take_sublist _ _)
  have zl : (z9.take u).length = u := by have := hL.u6; rw [List.length_take, hL.l9]; omega
  have u6 := hL.u6
  refine ⟨.ref nl, rfl, nl, rfl, ⟨_, sq_l (kr _ _ not0 hL.hn)⟩, for_list (K := K) (a := nl) (xs := (z9.take u).map V.str) (fun i σ H' => ∃ c10, σ = [some (.ref a), some (.ref dl), some (.int (u : Nat)), some (.int (m : Nat)), some (.int st), some (.ref n9), some (.ref nl), some (.ref d), some (.ref cl), some (.ref r), c10, none, none, none, none, none, none] ∧ HandAt Hr H' r ((z9.take u).take i) m c ∧ Kp [] Hr H') ⟨none, rfl, ⟨⟨[], upd_same, rfl, fun i z e => by cases e⟩, nr, fun kvs e k v hm => ?_⟩, kr⟩ (fun i σ H' _ h => by obtain ⟨_, _, _, k⟩ := h; exact k.ls not0 (sq_l hL.hn)) ?_ ?_⟩
  · rw [upd_same] at e
    cases e
    cases hm
  · rintro i x σ H1 hx ⟨c3, rfl, ⟨hrw, _, hnew⟩, k1⟩
    obtain ⟨z, ez, rfl⟩ : ∃ z, (z9.take u)[i]? = some z ∧ V.str z = x := by
      rw [List.getElem?_map] at hx
      cases e : (z9.take u)[i]? with
      | none => rw [e] at hx; cases hx
      | some z => rw [e] at hx; exact ⟨z, rfl, Option.some.inj hx⟩
    obtain ⟨kvs, l, xs, hd1, ev, hl, hc⟩ := (hL.rw_.kp k1).get ndz (List.mem_of_getElem? ez)
    try simp only [tSeq, tIfS, tTest, tOp, tUn, tCB, tCons, tNil, tVar, tC, rI0, rI, rU, rEq, rNe, tRet, tRetN, tAsg, gName, gSub, tBM, tBM0, tNext, tB, tNot, tAnd, tOr, tIf, tCall, tDrop, tBreak, tCont, L2.start, tDGet, sDPut, tTup, tLst, tDNewK, tRevL, rCat, rAppend, rPop, rSetL, tAndV, tOrV, tNotV, tSl, tPart, tNoPart, tM1, gTup, gCons, gNil, cxK, cxnK, List.map_cons, List.map_nil, List.length_cons, List.length_nil, List.replicate, List.cons_append, List.nil_append, List.append_nil, List.set_cons_zero, List.set_cons_succ, List.getElem?_cons_zero, List.getElem?_cons_succ, Option.some.injEq, V.ref.injEq, V.int.injEq, V.str.injEq, V.bl.injEq, V.ty.injEq, exists_eq_left', exists_eq_left, exists_and_left, List.cons.injEq, and_true, true_and, sc_ii, sc_ss, sc_bb, sc_ni, sc_in, sc_is, sc_si, sc_nn, decide_true, decide_false, reduceCtorEq, Bool.false_eq_true, if_true, if_false, ite_true, ite_false, exists_const, eq_self, false_and, and_false, or_false, false_or, exists_false, Evl.rLenS, rSum, wipe, tYes, exists_eq, exists_eq', rIxL, rIxT, rIxS, exists_and_right, gt_iff_lt, not_true_eq_false, not_false_eq_true, Bool.not_true, Bool.not_false, decide_eq_true_eq, Nat.reduceSub, Nat.reduceAdd, List.append_assoc, tChain, tDIn, tDNotIn, sDDel, tAug, ipI, sDPut]
    refine ⟨.ref l, .inl ⟨kvs, Sum.inr z, .inl hd1, rfl, ev.symm⟩, l, rfl, xs, .inl (sq_l hl), fun p np => ?_⟩
    have kp : Kp [] H1 (upd H1 p (.lst xs)) := Kp.new np
    obtain ⟨kv2, hr7, hl7, hput, hrw7⟩ := hrw.put (z := z) (xs := xs) (c := c) kp (nd_fresh ndz ez) upd_same (hc.kp kp)
    refine ⟨_, .inl ⟨kv2, Sum.inr z, hr7, rfl, smallL (by rw [hl7, List.length_take]; omega), rfl⟩, ?_⟩
    rw [hput, take_snoc ez]
    refine ⟨⟨hrw7, nr, fun kvs e k v hm => ?_⟩, (k1.trans kp).wr nr⟩
    rw [upd_same] at e
    cases e
    rcases List.mem_append.mp hm with hm | hm
    · obtain ⟨kv3, hr1, _⟩ := id hrw
      have := kp _ _ not0 hr1
      rw [hr7] at this
      cases this
      exact hnew _ hr1 _ _ hm
    · cases List.mem_singleton.mp hm
      exact ⟨p, rfl, k1.free0 np⟩
  · rintro σ H1 ⟨c3, rfl, hh, k1⟩
    rw [List.length_map, List.take_length] at hh
    exact hq _ _ ⟨dl, n9, nl, d, cl, r, ds, z9, u, m, st, cs, c, c3, Hr, rfl, hL, k1, hh⟩
end
end My

set_option Elab.async false
set_option linter.all false
set_option maxRecDepth 100000
set_option maxHeartbeats 4000000
namespace My
open PySem L2 NdefX StX
/-- a table that stands whatever becomes of what was there at Hh, its tuples aside -/
def OwnT (TC : Addr) (Hh H : Hp) (t : Addr) (zs : List Str) (m : Nat) (st : Int) (c : Str → Nat → Int × Int) : Prop := ∀ H'' : Hp, (∀ a u, H a = some u → (Hh a = none ∨ ∃ xs, u = .tup xs) → H'' a = some u) → TabIs TC H'' t zs m st c
theorem OwnT.kp {TC : Addr} {Hh H H1 : Hp} {t : Addr} {zs : List Str} {m : Nat} {st : Int} {c : Str → Nat → Int × Int} (h : OwnT TC Hh H t zs m st c) (k : Kp [] H H1) : OwnT TC Hh H1 t zs m st c := fun H'' up => h H'' fun a u ea ha => up a u (k _ _ not0 ea) ha
theorem OwnT.tab {TC : Addr} {Hh H : Hp} {t : Addr} {zs : List Str} {m : Nat} {st : Int} {c : Str → Nat → Int × Int} (h : OwnT TC Hh H t zs m st c) : TabIs TC H t zs m st c := h H fun _ _ e _ => e
theorem OwnT.of {TC : Addr} {Hh H2 H3 : Hp} {t : Addr} {zs : List Str} {m : Nat} {st : Int} {c : Str → Nat → Int × Int} (k : Kp [] Hh H2) (h : ∀ H'' : Hp, (∀ a u, H3 a = some u → (H2 a = none ∨ ∃ xs, u = .tup xs) → H'' a = some u) → TabIs TC H'' t zs m st c) : OwnT TC Hh H3 t zs m st c := fun H'' up => h H'' fun a u ea ha => up a u ea (ha.imp k.free0 id)
def S14 (K : PySem.W.Frag) (TC a : Addr) (ns : List Int) (σ : L2.St) (H : Hp) : Prop := ∃ (dl n9 nl d cl h p t : Addr) (ds : List Int) (z9 : List Str) (u m : Nat) (st : Int) (cs : List Str) (c : Str → Nat → Int × Int) (c10 : Option V) (Hr Hh : Hp), σ = [some (.ref a), some (.ref dl), some (.int (u : Nat)), some (.int (m : Nat)), some (.int st), some (.ref n9), some (.ref nl), some (.ref d), some (.ref cl), some (.ref h), c10, some (.ref p), some (.ref t), none, none, none, none] ∧ LB K a dl n9 nl d cl ns ds z9 u m st cs c Hr ∧ Kp [] Hr Hh ∧ HandAt Hr Hh h (z9.take u) m c ∧ Kp [] Hh H ∧ OwnT TC Hh H p (z9.take u) m 0 c ∧ OwnT TC Hh H t (z9.take u) m st c
def S19 (K : PySem.W.Frag) (TC a : Addr) (ns : List Int) (σ : L2.St) (H : Hp) : Prop := ∃ (dl n9 nl d cl h p t : Addr) (ds : List Int) (z9 : List Str) (u m : Nat) (st : Int) (cs : List Str) (c : Str → Nat → Int × Int) (c10 : Option V), σ = [some (.ref a), some (.ref dl), some (.int (u : Nat)), some (.int (m : Nat)), some (.int st), some (.ref n9), some (.ref nl), some (.ref d), some (.ref cl), some (.ref h), c10, some (.ref p), some (.ref t), none, none, none, none] ∧ LB K a dl n9 nl d cl ns ds z9 u m st cs c H ∧ TabIs TC H t (z9.take u) m st c
def S23 (K : PySem.W.Frag) (TC a : Addr) (ns : List Int) (σ : L2.St) (H : Hp) : Prop := ∃ (dl n9 nl d cl h p t : Addr) (ds : List Int) (z9 : List Str) (u m : Nat) (st : Int) (cs : List Str) (c : Str → Nat → Int × Int) (c10 c13 c14 : Option V), σ = [some (.ref a), some (.ref dl), some (.int (u : Nat)), some (.int (m : Nat)), some (.int st), some (.ref n9), some (.ref nl), some (.ref d), some (.ref cl), some (.ref h), c10, some (.ref p), some (.ref t), c13, c14, none, none] ∧ LB K a dl n9 nl d cl ns ds z9 u m st cs c H
theorem LB.z {K : PySem.W.Frag} {a dl n9 nl d cl : Addr} {ns ds : List Int} {z9 : List Str} {u m : Nat} {st : Int} {cs : List Str} {c : Str → Nat → Int × Int} {H : Hp} (h : LB K a dl n9 nl d cl ns ds z9 u m st cs c H) : (z9.take u).Nodup ∧ z9.take u ≠ [] ∧ (z9.take u).length = u ∧ ∀ z ∈ z9.take u, nameS z = true := by
  have zl : (z9.take u).length = u := by have := h.u6; rw [List.length_take, h.l9]; omega
  refine ⟨h.nd.sublist (List.take_sublist _ _), fun e => ?_, zl, fun z hz => h.nm z (List.mem_of_mem_take hz)⟩
  rw [e] at zl
  have := h.u1
  simp at zl
  omega
theorem RwAt.head {H : Hp} {h : Addr} {zs : List Str} {m : Nat} {c : Str → Nat → Int × Int} (hR : RwAt H h zs m c) (nd : zs.Nodup) {z0 : Str} (e0 : zs[0]? = some z0) : ∃ kvs l0 us, H h = some (.dK kvs) ∧ (Sum.inr z0, V.ref l0) ∈ kvs ∧ valV kvs (Sum.inr z0) = some (.ref l0) ∧ H l0 = some (.lst us) ∧ us.length = m ∧ ∀ z ∈ zs, (valV kvs (Sum.inr z)).isSome = true := by
  obtain ⟨kvs, hd, hlen, hv⟩ := id hR
  obtain ⟨l0, us, a, b, cc⟩ := hv 0 z0 e0
  have ndk : (kvs.map (·.1)).Nodup := by
    rw [RwAt.keys (P := fun _ _ _ => True) hlen fun i z e => by obtain ⟨l, xs, a, _⟩ := hv i z e; exact ⟨_, a, True.intro⟩]
    exact List.Pairwise.map (R := fun a b => a ≠ b) _ (fun a b h e => h (by cases e; rfl)) nd
  refine ⟨kvs, l0, us, hd, List.mem_of_getElem? a, valV_mem ndk (List.mem_of_getElem? a), b, cc.1, fun z hz => ?_⟩
  obtain ⟨i, e⟩ := List.getElem?_of_mem hz
  obtain ⟨l, xs, a2, _⟩ := hv i z e
  rw [valV_mem ndk (List.mem_of_getElem? a2)]; rfl
section
variable {P : Program} {w : World} {K : PySem.W.Frag} {mg : Str → Option Value} {base : Heap}
theorem law_p11 (T : BtV mg) {f : Addr} {cdv : Value} {A : Around} {outer : List Env} {s : Shared} {H : Hp} {Q : VK} {E : XK} (hr : Room 12 (A.deeper (PyProof.Rows.envOfC "law" (defScope s_law) s.heap.objs.size f cdv)))
    {TC BT fI : Addr} {fdI : FuncData} {hdes : List Value} (C : TbC K mg TC) (M_Table : Mk K TC fI) (bI_Table : Binds K fdI ["self", "rows", "first"] []) (bD_Table : Binds K fdI ["self", "rows", "first"] hdes) (hd_Table : Vals [.int 0] hdes) (kb_Table : KBn K fdI ["self", "rows", "first"] 2 ["first"] (fun us ws => us ++ ws) (fun vs zs => vs ++ zs))
    (G_Table_init : FnOk P w K mg base (L2.CX P w) 6 fI fdI ["self", "rows", "first"] (spTI TC BT))
    {a : Addr} {ns : List Int} {t : TS} (ht : PSs (cxOf CX0 P w K mg base ["_law_script", "_law_d", "_law_many", "_law_size", "_law_start", "_law_nine", "_law_names_here", "_law_rows_here", "_law_calls_here", "_law_handed", "_law_name", "_law_plain", "_law_table", "_law_spot", "_law_chosen", "_law_begun", "_law_items"] "law" (defScope s_law) f cdv A outer s H E).nox ((defBody s_law).drop 13) t) (hq : ∀ σ H9, S14 K TC a ns σ H9 → t { nx := fun _ H' => Q .non H', rt := Q } σ H9) :
    ∃ t, PSs (cxOf CX0 P w K mg base ["_law_script", "_law_d", "_law_many", "_law_size", "_law_start", "_law_nine", "_law_names_here", "_law_rows_here", "_law_calls_here", "_law_handed", "_law_name", "_law_plain", "_law_table", "_law_spot", "_law_chosen", "_law_begun", "_law_items"] "law" (defScope s_law) f cdv A outer s H E).nox ((defBody s_law).drop 11) t ∧ ∀ σ H9, S11 K a ns σ H9 → t { nx := fun _ H' => Q .non H', rt := Q } σ H9 := by
  have hu := hu_of hr
  refine ⟨_, (pss_cons (ps_set (i := 11) sc_law.nd rfl (Or.inl rfl) (pe_make M_Table G_Table_init (hr.mono (by decide)) rfl C.k bD_Table hd_Table passL (pa_cons (pv 9) pa_nil)))
      (pss_cons (ps_set (i := 12) sc_law.nd rfl (Or.inl rfl) (pe_make M_Table G_Table_init (hr.mono (by decide)) rfl C.k bI_Table .nil passL (pa_cons (pv 9) (pa_cons (pv 4) pa_nil))))
      ht)), ?_⟩
  rintro σ Hh ⟨dl, n9, nl, d, cl, h, ds, z9, u, m, st, cs, c, c10, Hr, rfl, hL, kh, hH⟩
  try simp only [tSeq, tIfS, tTest, tOp, tUn, tCB, tCons, tNil, tVar, tC, rI0, rI, rU, rEq, rNe, tRet, tRetN, tAsg, gName, gSub, tBM, tBM0, tNext, tB, tNot, tAnd, tOr, tIf, tCall, tDrop, tBreak, tCont, L2.start, tDGet, sDPut, tTup, tLst, tDNewK, tRevL, rCat, rAppend, rPop, rSetL, tAndV, tOrV, tNotV, tSl, tPart, tNoPart, tM1, gTup, gCons, gNil, cxK, cxnK, List.map_cons, List.map_nil, List.length_cons, List.length_nil, List.replicate, List.cons_append, List.nil_append, List.append_nil, List.set_cons_zero, List.set_cons_succ, List.getElem?_cons_zero, List.getElem?_cons_succ, Option.some.injEq, V.ref.injEq, V.int.injEq, V.str.injEq, V.bl.injEq, V.ty.injEq, exists_eq_left', exists_eq_left, exists_and_left, List.cons.injEq, and_true, true_and, sc_ii, sc_ss, sc_bb, sc_ni, sc_in, sc_is, sc_si, sc_nn, decide_true, decide_false, reduceCtorEq, Bool.false_eq_true, if_true, if_false, ite_true, ite_false, exists_const, eq_self, false_and, and_false, or_false, false_or, exists_false, Evl.rLenS, rSum, wipe, tYes, exists_eq, exists_eq', rIxL, rIxT, rIxS, exists_and_right, gt_iff_lt, not_true_eq_false, not_false_eq_true, Bool.not_true, Bool.not_false, decide_eq_true_eq, Nat.reduceSub, Nat.reduceAdd, List.append_assoc, tChain, tDIn, tDNotIn, sDDel, tAug, ipI, tMake]
  obtain ⟨nd, zne, zl, nm⟩ := hL.z
  have u6 := hL.u6
  intro t1 dt1 nt1 ndt1 ne1
  refine mk_tab hH.1 hL.cb nd zne (by omega) nm hL.m1 hL.m100 (by decide) (by have := hL.m1; omega) nt1 ndt1 ne1.symm fun H1 hT1 own1 k1 => ?_
  refine ⟨rfl, ?_⟩
  intro t2 dt2 nt2 ndt2 ne2
  refine mk_tab (hH.1.kp k1) hL.cb nd zne (by omega) nm hL.m1 hL.m100 hL.s0 hL.s1 nt2 ndt2 ne2.symm fun H2 hT2 own2 k2 => ?_
  refine ⟨rfl, ?_⟩
  exact hq _ _ ⟨dl, n9, nl, d, cl, h, t1, t2, ds, z9, u, m, st, cs, c, c10, Hr, Hh, rfl, hL, kh, hH, k1.trans k2, (OwnT.of (Kp.refl _ _) own1).kp k2, OwnT.of k1 own2⟩
theorem law_p13 (T : BtV mg) {f : Addr} {cdv : Value} {A : Around} {outer : List Env} {s : Shared} {H : Hp} {Q : VK} {E : XK} (hr : Room 12 (A.deeper (PyProof.Rows.envOfC "law" (defScope s_law) s.heap.objs.size f cdv)))
    {TC BT fI : Addr} {fdI : FuncData} {hdes : List Value} (C : TbC K mg TC) (M_Table : Mk K TC fI) (bI_Table : Binds K fdI ["self", "rows", "first"] []) (bD_Table : Binds K fdI ["self", "rows", "first"] hdes) (hd_Table : Vals [.int 0] hdes) (kb_Table : KBn K fdI ["self", "rows", "first"] 2 ["first"] (fun us ws => us ++ ws) (fun vs zs => vs ++ zs))
    (G_Table_init : FnOk P w K mg base (L2.CX P w) 6 fI fdI ["self", "rows", "first"] (spTI TC BT))
    {a : Addr} {ns : List Int} {t : TS} (ht : PSs (cxOf CX0 P w K mg base ["_law_script", "_law_d", "_law_many", "_law_size", "_law_start", "_law_nine", "_law_names_here", "_law_rows_here", "_law_calls_here", "_law_handed", "_law_name", "_law_plain", "_law_table", "_law_spot", "_law_chosen", "_law_begun", "_law_items"] "law" (defScope s_law) f cdv A outer s H E).nox ((defBody s_law).drop 14) t) (hq : ∀ σ H9, S14 K TC a ns σ H9 → t { nx := fun _ H' => Q .non H', rt := Q } σ H9) :
    ∃ t, PSs (cxOf CX0 P w K mg base ["_law_script", "_law_d", "_law_many", "_law_size", "_law_start", "_law_nine", "_law_names_here", "_law_rows_here", "_law_calls_here", "_law_handed", "_law_name", "_law_plain", "_law_table", "_law_spot", "_law_chosen", "_law_begun", "_law_items"] "law" (defScope s_law) f cdv A outer s H E).nox ((defBody s_law).drop 13) t ∧ ∀ σ H9, S14 K TC a ns σ H9 → t { nx := fun _ H' => Q .non H', rt := Q } σ H9 := by
  have hu := hu_of hr
  refine ⟨_, (pss_cons (ps_if (pt_cmpR op_eq (pe_ix (r := rIxL K) ix_list (pv 1) pe_int (fun _ _ => rfl)) pe_int (nomark _)) (pss_one (ps_set (i := 12) sc_law.nd rfl (Or.inl rfl) (pe_makeN M_Table G_Table_init (hr.mono (by decide)) rfl C.k kb_Table passL (pa_cons (pv 9) pa_nil) (pk_cons (pv 4) pk_nil)))) pss_nil)
      ht), ?_⟩
  rintro σ H1 hS
  obtain ⟨dl, n9, nl, d, cl, h, p, t0, ds, z9, u, m, st, cs, c, c10, Hr, Hh, rfl, hL, kh, hH, k1, o1, o2⟩ := id hS
  have hLh := (hL.kp kh).kp k1
  obtain ⟨d10, hsq, a10, e10, b10, c10'⟩ := hLh.bs.get (i := 10) (by decide) rfl
  simp only [tSeq]
  refine ifs_both (S14 K TC a ns) (fun Dn' hD => ?_) (fun σ' H' hP => hq σ' H' hP)
  try simp only [tSeq, tIfS, tTest, tOp, tUn, tCB, tCons, tNil, tVar, tC, rI0, rI, rU, rEq, rNe, tRet, tRetN, tAsg, gName, gSub, tBM, tBM0, tNext, tB, tNot, tAnd, tOr, tIf, tCall, tDrop, tBreak, tCont, L2.start, tDGet, sDPut, tTup, tLst, tDNewK, tRevL, rCat, rAppend, rPop, rSetL, tAndV, tOrV, tNotV, tSl, tPart, tNoPart, tM1, gTup, gCons, gNil, cxK, cxnK, List.map_cons, List.map_nil, List.length_cons, List.length_nil, List.replicate, List.cons_append, List.nil_append, List.append_nil, List.set_cons_zero, List.set_cons_succ, List.getElem?_cons_zero, List.getElem?_cons_succ, Option.some.injEq, V.ref.injEq, V.int.injEq, V.str.injEq, V.bl.injEq, V.ty.injEq, exists_eq_left', exists_eq_left, exists_and_left, List.cons.injEq, and_true, true_and, sc_ii, sc_ss, sc_bb, sc_ni, sc_in, sc_is, sc_si, sc_nn, decide_true, decide_false, reduceCtorEq, Bool.false_eq_true, if_true, if_false, ite_true, ite_false, exists_const, eq_self, false_and, and_false, or_false, false_or, exists_false, Evl.rLenS, rSum, wipe, tYes, exists_eq, exists_eq', rIxL, rIxT, rIxS, exists_and_right, gt_iff_lt, not_true_eq_false, not_false_eq_true, Bool.not_true, Bool.not_false, decide_eq_true_eq, Nat.reduceSub, Nat.reduceAdd, List.append_assoc, tChain, tDIn, tDNotIn, sDDel, tAug, ipI, tMakeN]
  refine ⟨_, hsq, _, a10, rfl, ?_⟩
  refine ite2 (fun _ => ?_) (fun _ => hD _ _ hS)
  obtain ⟨nd, zne, zl, nm⟩ := hL.z
  have u6 := hL.u6
  intro t2 dt2 nt2 ndt2 ne2
  exact mk_tab (hH.1.kp k1) hL.cb nd zne (by omega) nm hL.m1 hL.m100 hL.s0 hL.s1 nt2 ndt2 ne2.symm fun H2 hT2 own2 k2 => ⟨rfl, hD _ _ ⟨dl, n9, nl, d, cl, h, p, t2, ds, z9, u, m, st, cs, c, c10, Hr, Hh, rfl, hL, kh, hH, k1.trans k2, o1.kp k2, OwnT.of k1 own2⟩⟩
theorem law_p14 (T : BtV mg) {f : Addr} {cdv : Value} {A : Around} {outer : List Env} {s : Shared} {H : Hp} {Q : VK} {E : XK} (hr : Room 12 (A.deeper (PyProof.Rows.envOfC "law" (defScope s_law) s.heap.objs.size f cdv)))
    {TC BT NO fN : Addr} {fdN : FuncData} (C : TbC K mg TC) (ME_Table_names : Meth K TC "names" fN) (bM_Table_names : Binds K fdN ["self"] []) (G_Table_names : FnOk P w K mg base CX0 1 fN fdN ["self"] (spTN TC))
    {f1 : Addr} {fd1 : FuncData} (D_law_same_rows : Df K mg "_law_same_rows" s_law_same_rows ["_law_handed", "_law_names_here", "_law_rows_here"] f1 fd1) (G_law_same_rows : FnOk P w K mg base CX0 1 f1 fd1 ["_law_handed", "_law_names_here", "_law_rows_here"] spSame)
    {f2 : Addr} {fd2 : FuncData} (D_law_spoil : Df K mg "_law_spoil" s_law_spoil ["_law_handed", "_law_names_here", "_law_rows_here"] f2 fd2) (G_law_spoil : FnOk P w K mg base CX0 1 f2 fd2 ["_law_handed", "_law_names_here", "_law_rows_here"] spSpoil)
    {f3 : Addr} {fd3 : FuncData} (D_law_bend : Df K mg "_law_bend" s_law_bend ["_law_told", "_law_odd"] f3 fd3) (G_law_bend : FnOk P w K mg base CX0 1 f3 fd3 ["_law_told", "_law_odd"] spBend)
    {f4 : Addr} {fd4 : FuncData} (D_law_tells : Df K mg "_law_tells" s_law_tells ["_law_table", "_law_names_here", "_law_rows_here", "_law_start"] f4 fd4) (G_law_tells : FnOk P w K mg base CX0 6 f4 fd4 ["_law_table", "_law_names_here", "_law_rows_here", "_law_start"] (spTells TC))
    {f5 : Addr} {fd5 : FuncData} (D_law_all_answers : Df K mg "_law_all_answers" s_law_all_answers ["_law_table", "_law_plain", "_law_rows_here", "_law_start", "_law_calls_here"] f5 fd5) (G_law_all_answers : FnOk P w K mg base CX0 7 f5 fd5 ["_law_table", "_law_plain", "_law_rows_here", "_law_start", "_law_calls_here"] (spAllA TC))
    {a : Addr} {ns : List Int} {t : TS} (ht : PSs (cxOf CX0 P w K mg base ["_law_script", "_law_d", "_law_many", "_law_size", "_law_start", "_law_nine", "_law_names_here", "_law_rows_here", "_law_calls_here", "_law_handed", "_law_name", "_law_plain", "_law_table", "_law_spot", "_law_chosen", "_law_begun", "_law_items"] "law" (defScope s_law) f cdv A outer s H E).nox ((defBody s_law).drop 19) t) (hq : ∀ σ H9, S19 K TC a ns σ H9 → t { nx := fun _ H' => Q .non H', rt := Q } σ H9) :
    ∃ t, PSs (cxOf CX0 P w K mg base ["_law_script", "_law_d", "_law_many", "_law_size", "_law_start", "_law_nine", "_law_names_here", "_law_rows_here", "_law_calls_here", "_law_handed", "_law_name", "_law_plain", "_law_table", "_law_spot", "_law_chosen", "_law_begun", "_law_items"] "law" (defScope s_law) f cdv A outer s H E).nox ((defBody s_law).drop 14) t ∧ ∀ σ H9, S14 K TC a ns σ H9 → t { nx := fun _ H' => Q .non H', rt := Q } σ H9 := by
  have hu := hu_of hr
  refine ⟨_, (pss_cons (ps_if (pt_not (pt_val (pe_call G_law_same_rows (hr.mono (by decide)) rfl D_law_same_rows.g D_law_same_rows.F.kp D_law_same_rows.b .nil pass0 (pa_cons (pv 9) (pa_cons (pv 6) (pa_cons (pv 7) pa_nil)))))) (pss_one (ps_ret pe_bl)) pss_nil)
      (pss_cons (ps_expr (pe_call G_law_spoil (hr.mono (by decide)) rfl D_law_spoil.g D_law_spoil.F.kp D_law_spoil.b .nil pass0 (pa_cons (pv 9) (pa_cons (pv 6) (pa_cons (pv 7) pa_nil)))))
      (pss_cons (ps_expr (pe_call G_law_bend (hr.mono (by decide)) rfl D_law_bend.g D_law_bend.F.kp D_law_bend.b .nil pass0 (pa_cons (pe_meth0 (pv 12) C.cl ME_Table_names G_Table_names (hr.mono (by decide)) bM_Table_names .nil pass0) (pa_cons (pe_ix (r := rIxL K) ix_list (pv 5) pe_int (fun _ _ => rfl)) pa_nil))))
      (pss_cons (ps_if (PW.pt (pw_or (pt_not (pt_val (pe_call G_law_tells (hr.mono (by decide)) rfl D_law_tells.g D_law_tells.F.kp D_law_tells.b .nil pass0 (pa_cons (pv 12) (pa_cons (pv 6) (pa_cons (pv 7) (pa_cons (pv 4) pa_nil))))))) (pw_or1 (pt_not (pt_val (pe_call G_law_tells (hr.mono (by decide)) rfl D_law_tells.g D_law_tells.F.kp D_law_tells.b .nil pass0 (pa_cons (pv 11) (pa_cons (pv 6) (pa_cons (pv 7) (pa_cons pe_int pa_nil)))))))))) (pss_one (ps_ret pe_bl)) pss_nil)
      (pss_cons (ps_if (pt_not (pt_val (pe_call G_law_all_answers (hr.mono (by decide)) rfl D_law_all_answers.g D_law_all_answers.F.kp D_law_all_answers.b .nil pass0 (pa_cons (pv 12) (pa_cons (pv 11) (pa_cons (pv 7) (pa_cons (pv 4) (pa_cons (pv 8) pa_nil)))))))) (pss_one (ps_ret pe_bl)) pss_nil)
      ht))))), ?_⟩
  rintro σ H1 ⟨dl, n9, nl, d, cl, h, p, t0, ds, z9, u, m, st, cs, c, c10, Hr, Hh, rfl, hL, kh, hH, k1, o1, o2⟩
  have k01 := kh.trans k1
  have hL1 := hL.kp k01
  obtain ⟨nd, zne, zl, nm⟩ := hL.z
  have u6 := hL.u6
  try simp only [tSeq, tIfS, tTest, tOp, tUn, tCB, tCons, tNil, tVar, tC, rI0, rI, rU, rEq, rNe, tRet, tRetN, tAsg, gName, gSub, tBM, tBM0, tNext, tB, tNot, tAnd, tOr, tIf, tCall, tDrop, tBreak, tCont, L2.start, tDGet, sDPut, tTup, tLst, tDNewK, tRevL, rCat, rAppend, rPop, rSetL, tAndV, tOrV, tNotV, tSl, tPart, tNoPart, tM1, gTup, gCons, gNil, cxK, cxnK, List.map_cons, List.map_nil, List.length_cons, List.length_nil, List.replicate, List.cons_append, List.nil_append, List.append_nil, List.set_cons_zero, List.set_cons_succ, List.getElem?_cons_zero, List.getElem?_cons_succ, Option.some.injEq, V.ref.injEq, V.int.injEq, V.str.injEq, V.bl.injEq, V.ty.injEq, exists_eq_left', exists_eq_left, exists_and_left, List.cons.injEq, and_true, true_and, sc_ii, sc_ss, sc_bb, sc_ni, sc_in, sc_is, sc_si, sc_nn, decide_true, decide_false, reduceCtorEq, Bool.false_eq_true, if_true, if_false, ite_true, ite_false, exists_const, eq_self, false_and, and_false, or_false, false_or, exists_false, Evl.rLenS, rSum, wipe, tYes, exists_eq, exists_eq', rIxL, rIxT, rIxS, exists_and_right, gt_iff_lt, not_true_eq_false, not_false_eq_true, Bool.not_true, Bool.not_false, decide_eq_true_eq, Nat.reduceSub, Nat.reduceAdd, List.append_assoc, tChain, tDIn, tDNotIn, sDDel, tAug, ipI, tMeth]
  have z1 := hL.u1
  have e0 : (z9.take u)[0]? = some (z9.take u)[0] := List.getElem?_eq_getElem (by omega)
  generalize (z9.take u)[0] = z0 at e0
  obtain ⟨kvs, l0, us, hkd, mkv, ev0, hl0, ul, allz⟩ := hH.1.head nd e0
  obtain ⟨_, el0, nl0⟩ := hH.2.2 kvs hkd _ _ mkv
  cases el0
  have nh := hH.2.1
  refine ⟨h, nl, d, m, z9.take u, c, rfl, hH.1.kp k1, hL1.hn, nd, by omega, hL.m100, nm, hL1.rw_, fun H2 k2 => ?_⟩
  try simp only [tSeq, tIfS, tTest, tOp, tUn, tCB, tCons, tNil, tVar, tC, rI0, rI, rU, rEq, rNe, tRet, tRetN, tAsg, gName, gSub, tBM, tBM0, tNext, tB, tNot, tAnd, tOr, tIf, tCall, tDrop, tBreak, tCont, L2.start, tDGet, sDPut, tTup, tLst, tDNewK, tRevL, rCat, rAppend, rPop, rSetL, tAndV, tOrV, tNotV, tSl, tPart, tNoPart, tM1, gTup, gCons, gNil, cxK, cxnK, List.map_cons, List.map_nil, List.length_cons, List.length_nil, List.replicate, List.cons_append, List.nil_append, List.append_nil, List.set_cons_zero, List.set_cons_succ, List.getElem?_cons_zero, List.getElem?_cons_succ, Option.some.injEq, V.ref.injEq, V.int.injEq, V.str.injEq, V.bl.injEq, V.ty.injEq, exists_eq_left', exists_eq_left, exists_and_left, List.cons.injEq, and_true, true_and, sc_ii, sc_ss, sc_bb, sc_ni, sc_in, sc_is, sc_si, sc_nn, decide_true, decide_false, reduceCtorEq, Bool.false_eq_true, if_true, if_false, ite_true, ite_false, exists_const, eq_self, false_and, and_false, or_false, false_or, exists_false, Evl.rLenS, rSum, wipe, tYes, exists_eq, exists_eq', rIxL, rIxT, rIxS, exists_and_right, gt_iff_lt, not_true_eq_false, not_false_eq_true, Bool.not_true, Bool.not_false, decide_eq_true_eq, Nat.reduceSub, Nat.reduceAdd, List.append_assoc, tChain, tDIn, tDNotIn, sDDel, tAug, ipI, tMeth]
  have k12 := k1.trans k2
  have k02 := k01.trans k2
  have hL2 := hL1.kp k2
  have m1 := hL.m1
  have m100 := hL.m100
  refine ⟨h, nl, d, l0, m, z0, z9.take u, c, kvs, us, rfl, k12 _ _ not0 hkd, ev0, k12 _ _ not0 hl0, fun w => (by have := hL.hn; rw [w, nl0] at this; cases this), by omega, by omega, allz, hL2.hn, by rw [List.head?_eq_getElem?]; exact e0, m1, hL2.rw_.on nd, nd, fun H3 k3 => ?_⟩
  have kr3 : Kp [] Hr H3 := fun b o _ eb => k3 b o (fun hm => by
    simp at hm
    rcases hm with rfl | rfl
    · rw [nh] at eb; cases eb
    · rw [nl0] at eb; cases eb) (k02 _ _ not0 eb)
  have up3 : ∀ a u, H2 a = some u → (Hh a = none ∨ ∃ xs, u = .tup xs) → H3 a = some u := fun a u ea ha => k3 a u (fun hm => by
    simp at hm
    rcases hm with rfl | rfl
    · rcases ha with ha | ⟨xs, rfl⟩
      · rw [hkd] at ha; cases ha
      · rw [k12 _ _ not0 hkd] at ea; cases ea
    · rcases ha with ha | ⟨xs, rfl⟩
      · rw [hl0] at ha; cases ha
      · rw [k12 _ _ not0 hl0] at ea; cases ea) ea
  have tT := (o2.kp k2) H3 up3
  have tP := (o1.kp k2) H3 up3
  have hL3 := hL.kp kr3
  obtain ⟨rs, hT, en, hcc⟩ := id tT
  obtain ⟨dx, dd, ho⟩ := hT.head
  refine ⟨dx, _, ho, rfl, t0, m, st, rs, rfl, hT, fun l H4 nl4 hl4 k4 => ?_⟩
  have l79 : 7 < z9.length := by rw [hL.l9]; decide
  have e7 : z9[7]? = some z9[7] := List.getElem?_eq_getElem l79
  have at7 : atI (z9.map V.str) 7 = some (.str z9[7]) := atI_of (by decide) (by rw [List.getElem?_map]; exact congrArg (Option.map V.str) e7)
  have rsl : ((rs.map (·.1)).map V.str).length ≤ 1000 := by rw [List.length_map, show rs.map (·.1) = z9.take u from en, zl]; omega
  refine ⟨_, sq_l (hL3.kp k4).h9, _, at7, l, _, _, rfl, hl4, rsl, fun H5 k5 => ?_⟩
  have k35 : Kp [] H3 H5 := fun b o _ eb => k5 b o (not1 fun w => by rw [w, nl4] at eb; cases eb) (k4 _ _ not0 eb)
  have hL5 := hL3.kp k35
  refine ⟨t0, nl, d, m, st, z9.take u, c, rfl, tT.kp k35, hL5.hn, hL5.rw_.on nd, fun H6 k6 => ?_⟩
  try simp only [tSeq, tIfS, tTest, tOp, tUn, tCB, tCons, tNil, tVar, tC, rI0, rI, rU, rEq, rNe, tRet, tRetN, tAsg, gName, gSub, tBM, tBM0, tNext, tB, tNot, tAnd, tOr, tIf, tCall, tDrop, tBreak, tCont, L2.start, tDGet, sDPut, tTup, tLst, tDNewK, tRevL, rCat, rAppend, rPop, rSetL, tAndV, tOrV, tNotV, tSl, tPart, tNoPart, tM1, gTup, gCons, gNil, cxK, cxnK, List.map_cons, List.map_nil, List.length_cons, List.length_nil, List.replicate, List.cons_append, List.nil_append, List.append_nil, List.set_cons_zero, List.set_cons_succ, List.getElem?_cons_zero, List.getElem?_cons_succ, Option.some.injEq, V.ref.injEq, V.int.injEq, V.str.injEq, V.bl.injEq, V.ty.injEq, exists_eq_left', exists_eq_left, exists_and_left, List.cons.injEq, and_true, true_and, sc_ii, sc_ss, sc_bb, sc_ni, sc_in, sc_is, sc_si, sc_nn, decide_true, decide_false, reduceCtorEq, Bool.false_eq_true, if_true, if_false, ite_true, ite_false, exists_const, eq_self, false_and, and_false, or_false, false_or, exists_false, Evl.rLenS, rSum, wipe, tYes, exists_eq, exists_eq', rIxL, rIxT, rIxS, exists_and_right, gt_iff_lt, not_true_eq_false, not_false_eq_true, Bool.not_true, Bool.not_false, decide_eq_true_eq, Nat.reduceSub, Nat.reduceAdd, List.append_assoc, tChain, tDIn, tDNotIn, sDDel, tAug, ipI]
  have k36 := k35.trans k6
  have hL6 := hL5.kp k6
  refine ⟨p, nl, d, m, 0, z9.take u, c, rfl, tP.kp k36, hL6.hn, hL6.rw_.on nd, fun H7 k7 => ?_⟩
  try simp only [tSeq, tIfS, tTest, tOp, tUn, tCB, tCons, tNil, tVar, tC, rI0, rI, rU, rEq, rNe, tRet, tRetN, tAsg, gName, gSub, tBM, tBM0, tNext, tB, tNot, tAnd, tOr, tIf, tCall, tDrop, tBreak, tCont, L2.start, tDGet, sDPut, tTup, tLst, tDNewK, tRevL, rCat, rAppend, rPop, rSetL, tAndV, tOrV, tNotV, tSl, tPart, tNoPart, tM1, gTup, gCons, gNil, cxK, cxnK, List.map_cons, List.map_nil, List.length_cons, List.length_nil, List.replicate, List.cons_append, List.nil_append, List.append_nil, List.set_cons_zero, List.set_cons_succ, List.getElem?_cons_zero, List.getElem?_cons_succ, Option.some.injEq, V.ref.injEq, V.int.injEq, V.str.injEq, V.bl.injEq, V.ty.injEq, exists_eq_left', exists_eq_left, exists_and_left, List.cons.injEq, and_true, true_and, sc_ii, sc_ss, sc_bb, sc_ni, sc_in, sc_is, sc_si, sc_nn, decide_true, decide_false, reduceCtorEq, Bool.false_eq_true, if_true, if_false, ite_true, ite_false, exists_const, eq_self, false_and, and_false, or_false, false_or, exists_false, Evl.rLenS, rSum, wipe, tYes, exists_eq, exists_eq', rIxL, rIxT, rIxS, exists_and_right, gt_iff_lt, not_true_eq_false, not_false_eq_true, Bool.not_true, Bool.not_false, decide_eq_true_eq, Nat.reduceSub, Nat.reduceAdd, List.append_assoc, tChain, tDIn, tDNotIn, sDDel, tAug, ipI]
  have k37 := k36.trans k7
  have hL7 := hL6.kp k7
  refine ⟨t0, p, d, cl, m, st, z9.take u, cs, c, rfl, tT.kp k37, tP.kp k37, hL7.rw_, hL7.cb, hL7.hc, by have := hL.c100; omega, hL.cm, fun H8 k8 => ?_⟩
  try simp only [tSeq, tIfS, tTest, tOp, tUn, tCB, tCons, tNil, tVar, tC, rI0, rI, rU, rEq, rNe, tRet, tRetN, tAsg, gName, gSub, tBM, tBM0, tNext, tB, tNot, tAnd, tOr, tIf, tCall, tDrop, tBreak, tCont, L2.start, tDGet, sDPut, tTup, tLst, tDNewK, tRevL, rCat, rAppend, rPop, rSetL, tAndV, tOrV, tNotV, tSl, tPart, tNoPart, tM1, gTup, gCons, gNil, cxK, cxnK, List.map_cons, List.map_nil, List.length_cons, List.length_nil, List.replicate, List.cons_append, List.nil_append, List.append_nil, List.set_cons_zero, List.set_cons_succ, List.getElem?_cons_zero, List.getElem?_cons_succ, Option.some.injEq, V.ref.injEq, V.int.injEq, V.str.injEq, V.bl.injEq, V.ty.injEq, exists_eq_left', exists_eq_left, exists_and_left, List.cons.injEq, and_true, true_and, sc_ii, sc_ss, sc_bb, sc_ni, sc_in, sc_is, sc_si, sc_nn, decide_true, decide_false, reduceCtorEq, Bool.false_eq_true, if_true, if_false, ite_true, ite_false, exists_const, eq_self, false_and, and_false, or_false, false_or, exists_false, Evl.rLenS, rSum, wipe, tYes, exists_eq, exists_eq', rIxL, rIxT, rIxS, exists_and_right, gt_iff_lt, not_true_eq_false, not_false_eq_true, Bool.not_true, Bool.not_false, decide_eq_true_eq, Nat.reduceSub, Nat.reduceAdd, List.append_assoc, tChain, tDIn, tDNotIn, sDDel, tAug, ipI]
  exact hq _ _ ⟨dl, n9, nl, d, cl, h, p, t0, ds, z9, u, m, st, cs, c, c10, rfl, hL7.kp k8, tT.kp (k37.trans k8)⟩
end
end My

set_option Elab.async false
set_option linter.all false
set_option maxRecDepth 100000
set_option maxHeartbeats 4000000
namespace My
open PySem L2 NdefX StX
def spMade : Sp := fun vs H Q _ => ∃ (a : Addr) (its : List (Str × List PyData)) (start : Int), vs = [.ref a, .int start] ∧ Items H a its ∧ ItOk its ∧ (its.map (·.1)).Nodup ∧ resOk (dueT its start) H Q
theorem due_in {its : List (Str × List PyData)} {b : Int} {n : Str} (h : ∀ it ∈ its, Fit (.str it.1)) (e : dueT its b = some n) : Fit (.str n) := by
  have f0 : Fit (.str ("" : Str)) := fit_str (by decide +kernel)
  unfold dueT at e
  cases hb : rowsBad (rowsI its) with
  | none =>
    rw [hb] at e
    by_cases hc : belowD (lenD ((rowsI its).headD ("", .none)).2) (.int b) = true
    · rw [if_pos hc] at e; cases e
    · rw [if_neg hc] at e
      cases e
      exact f0
  | some n' =>
    rw [hb] at e
    cases e
    by_cases h1 : its.length < 1
    · have := due_few (start := b) (.inl h1)
      unfold dueT at this
      rw [hb] at this
      cases this
      exact f0
    by_cases h6 : 6 < its.length
    · have := due_few (start := b) (.inr h6)
      unfold dueT at this
      rw [hb] at this
      cases this
      exact f0
    rw [rowsBad_mid h1 h6] at hb
    cases hf : (rowsI its).find? (fun q => !goodR (headL its) q) with
    | none => rw [hf] at hb; cases hb
    | some q =>
      rw [hf] at hb
      cases hb
      have hm := List.mem_of_find?_eq_some hf
      unfold rowsI at hm
      obtain ⟨it, hi, rfl⟩ := List.mem_map.mp hm
      exact h it hi
section
variable {P : Program} {w : World} {K : PySem.W.Frag} {mg : Str → Option Value} {base : Heap}
theorem law_p19 (T : BtV mg) {f : Addr} {cdv : Value} {A : Around} {outer : List Env} {s : Shared} {H : Hp} {Q : VK} {E : XK} (hr : Room 12 (A.deeper (PyProof.Rows.envOfC "law" (defScope s_law) s.heap.objs.size f cdv)))
    {TC : Addr} {f1 : Addr} {fd1 : FuncData} (D_law_less : Df K mg "_law_less" s_law_less ["_law_table", "_law_chosen", "_law_names_here", "_law_rows_here", "_law_start"] f1 fd1) (G_law_less : FnOk P w K mg base CX0 9 f1 fd1 ["_law_table", "_law_chosen", "_law_names_here", "_law_rows_here", "_law_start"] (spLess TC))
    {f2 : Addr} {fd2 : FuncData} (D_law_refuses : Df K mg "_law_refuses" s_law_refuses ["_law_table", "_law_calls_here", "_law_chosen", "_law_size", "_law_far", "_law_nine"] f2 fd2) (G_law_refuses : FnOk P w K mg base CX0 10 f2 fd2 ["_law_table", "_law_calls_here", "_law_chosen", "_law_size", "_law_far", "_law_nine"] (spRefs TC))
    {f4 : Addr} {fd4 : FuncData} (D_law_tells : Df K mg "_law_tells" s_law_tells ["_law_table", "_law_names_here", "_law_rows_here", "_law_start"] f4 fd4) (G_law_tells : FnOk P w K mg base CX0 6 f4 fd4 ["_law_table", "_law_names_here", "_law_rows_here", "_law_start"] (spTells TC))
    {a : Addr} {ns : List Int} {t : TS} (ht : PSs (cxOf CX0 P w K mg base ["_law_script", "_law_d", "_law_many", "_law_size", "_law_start", "_law_nine", "_law_names_here", "_law_rows_here", "_law_calls_here", "_law_handed", "_law_name", "_law_plain", "_law_table", "_law_spot", "_law_chosen", "_law_begun", "_law_items"] "law" (defScope s_law) f cdv A outer s H E).nox ((defBody s_law).drop 23) t) (hq : ∀ σ H9, S23 K TC a ns σ H9 → t { nx := fun _ H' => Q .non H', rt := Q } σ H9) :
    ∃ t, PSs (cxOf CX0 P w K mg base ["_law_script", "_law_d", "_law_many", "_law_size", "_law_start", "_law_nine", "_law_names_here", "_law_rows_here", "_law_calls_here", "_law_handed", "_law_name", "_law_plain", "_law_table", "_law_spot", "_law_chosen", "_law_begun", "_law_items"] "law" (defScope s_law) f cdv A outer s H E).nox ((defBody s_law).drop 19) t ∧ ∀ σ H9, S19 K TC a ns σ H9 → t { nx := fun _ H' => Q .non H', rt := Q } σ H9 := by
  have hu := hu_of hr
  refine ⟨_, (pss_cons (ps_set (i := 13) sc_law.nd rfl (Or.inl rfl) (pe_op op_mod (pe_callTy (T := "int") call_int1 (by rfl) T.b_int (by decide +kernel) (pa_cons (pe_ix (r := rIxL K) ix_list (pv 1) pe_int (fun _ _ => rfl)) pa_nil)) (pv 2)))
      (pss_cons (ps_set (i := 14) sc_law.nd rfl (Or.inl rfl) (pe_slice sl_list (pe_op op_cat (pe_slice sl_list (pv 6) (po_some (pv 13)) po_none) (pe_slice sl_list (pv 6) po_none (po_some (pv 13)))) po_none (po_some (pe_op op_add pe_int (pe_op op_mod (pe_callTy (T := "int") call_int1 (by rfl) T.b_int (by decide +kernel) (pa_cons (pe_ix (r := rIxL K) ix_list (pv 1) pe_int (fun _ _ => rfl)) pa_nil)) (pv 2))))))
      (pss_cons (ps_if (pt_not (pt_val (pe_call G_law_less (hr.mono (by decide)) rfl D_law_less.g D_law_less.F.kp D_law_less.b .nil pass0 (pa_cons (pv 12) (pa_cons (pv 14) (pa_cons (pv 6) (pa_cons (pv 7) (pa_cons (pv 4) pa_nil)))))))) (pss_one (ps_ret pe_bl)) pss_nil)
      (pss_cons (ps_if (PW.pt (pw_or (pt_not (pt_val (pe_call G_law_refuses (hr.mono (by decide)) rfl D_law_refuses.g D_law_refuses.F.kp D_law_refuses.b .nil pass0 (pa_cons (pv 12) (pa_cons (pv 8) (pa_cons (pv 14) (pa_cons (pv 3) (pa_cons (pe_ix (r := rIxL K) ix_list (pv 1) pe_int (fun _ _ => rfl)) (pa_cons (pv 5) pa_nil))))))))) (pw_or1 (pt_not (pt_val (pe_call G_law_tells (hr.mono (by decide)) rfl D_law_tells.g D_law_tells.F.kp D_law_tells.b .nil pass0 (pa_cons (pv 12) (pa_cons (pv 6) (pa_cons (pv 7) (pa_cons (pv 4) pa_nil)))))))))) (pss_one (ps_ret pe_bl)) pss_nil)
      ht)))), ?_⟩
  rintro σ H1 ⟨dl, n9, nl, d, cl, h, p, t0, ds, z9, u, m, st, cs, c, c10, rfl, hL, hT⟩
  obtain ⟨nd, zne, zl, nm⟩ := hL.z
  have u6 := hL.u6
  have u1 := hL.u1
  obtain ⟨d7, hsq, a7, e7, b7, c7⟩ := hL.bs.get (i := 7) (by decide) rfl
  obtain ⟨d8, _, a8, e8, b8, c8⟩ := hL.bs.get (i := 8) (by decide) rfl
  obtain ⟨d9, _, a9, e9, b9, c9⟩ := hL.bs.get (i := 9) (by decide) rfl
  try simp only [tSeq, tIfS, tTest, tOp, tUn, tCB, tCons, tNil, tVar, tC, rI0, rI, rU, rEq, rNe, tRet, tRetN, tAsg, gName, gSub, tBM, tBM0, tNext, tB, tNot, tAnd, tOr, tIf, tCall, tDrop, tBreak, tCont, L2.start, tDGet, sDPut, tTup, tLst, tDNewK, tRevL, rCat, rAppend, rPop, rSetL, tAndV, tOrV, tNotV, tSl, tPart, tNoPart, tM1, gTup, gCons, gNil, cxK, cxnK, List.map_cons, List.map_nil, List.length_cons, List.length_nil, List.replicate, List.cons_append, List.nil_append, List.append_nil, List.set_cons_zero, List.set_cons_succ, List.getElem?_cons_zero, List.getElem?_cons_succ, Option.some.injEq, V.ref.injEq, V.int.injEq, V.str.injEq, V.bl.injEq, V.ty.injEq, exists_eq_left', exists_eq_left, exists_and_left, List.cons.injEq, and_true, true_and, sc_ii, sc_ss, sc_bb, sc_ni, sc_in, sc_is, sc_si, sc_nn, decide_true, decide_false, reduceCtorEq, Bool.false_eq_true, if_true, if_false, ite_true, ite_false, exists_const, eq_self, false_and, and_false, or_false, false_or, exists_false, Evl.rLenS, rSum, wipe, tYes, exists_eq, exists_eq', rIxL, rIxT, rIxS, exists_and_right, gt_iff_lt, not_true_eq_false, not_false_eq_true, Bool.not_true, Bool.not_false, decide_eq_true_eq, Nat.reduceSub, Nat.reduceAdd, List.append_assoc, tChain, tDIn, tDNotIn, sDDel, tAug, ipI]
  obtain ⟨sp, esp⟩ : ∃ sp : Nat, d7 % ((u : Nat) : Int) = (sp : Nat) := ⟨(d7 % ((u : Nat) : Int)).toNat, by have := Int.emod_nonneg d7 (show ((u : Nat) : Int) ≠ 0 by omega); omega⟩
  have spl : sp < u := by have := Int.emod_lt_of_pos d7 (show (0 : Int) < (u : Nat) by omega); omega
  obtain ⟨kk, ekk⟩ : ∃ kk : Nat, 1 + d9 % ((u : Nat) : Int) = (kk : Nat) := ⟨(1 + d9 % ((u : Nat) : Int)).toNat, by have := Int.emod_nonneg d9 (show ((u : Nat) : Int) ≠ 0 by omega); omega⟩
  have kk1 : 1 ≤ kk := by have := Int.emod_nonneg d9 (show ((u : Nat) : Int) ≠ 0 by omega); omega
  have e8' : z9[8]? = some (z9[8]'(by rw [hL.l9]; decide)) := List.getElem?_eq_getElem _
  have e7' : z9[7]? = some (z9[7]'(by rw [hL.l9]; decide)) := List.getElem?_eq_getElem _
  generalize (z9[8]'(by rw [hL.l9]; decide)) = n8 at e8'
  generalize (z9[7]'(by rw [hL.l9]; decide)) = n7 at e7'
  have out : ∀ {i : Nat} {z : Str}, z9[i]? = some z → 6 < i → z ∉ z9.take u := fun {i z} e hi hm => by
    obtain ⟨j, ej⟩ := List.getElem?_of_mem hm
    have jl := (List.getElem?_eq_some_iff.mp ej).1
    rw [zl] at jl
    rw [List.getElem?_take_of_lt jl] at ej
    have := (List.getElem?_inj (List.getElem?_eq_some_iff.mp ej).1 hL.nd).mp (ej.trans e.symm)
    omega
  generalize hzs : z9.take u = zs at nd zne zl nm out
  have hn := hL.hn
  rw [hzs] at hn hT
  refine ⟨_, hsq, _, a7, .inl ⟨d7, rfl, by omega, ?_⟩⟩
  rw [esp]
  refine ⟨nl, _, rfl, sq_l hn, fun l1 nl1 => ?_⟩
  rw [cut_i]
  have k1 : Kp [] H1 (upd H1 l1 (.lst ((zs.drop sp).map V.str))) := Kp.new nl1
  have h1 : (upd H1 l1 (.lst ((zs.drop sp).map V.str))) l1 = some (.lst ((zs.drop sp).map V.str)) := upd_same
  generalize (upd H1 l1 (.lst ((zs.drop sp).map V.str))) = H2 at k1 h1 ⊢
  refine ⟨nl, _, rfl, sq_l (k1 _ _ not0 hn), fun l2 nl2 => ?_⟩
  rw [cut_0j]
  have k2 : Kp [] H2 (upd H2 l2 (.lst ((zs.take sp).map V.str))) := Kp.new nl2
  have h2 : (upd H2 l2 (.lst ((zs.take sp).map V.str))) l2 = some (.lst ((zs.take sp).map V.str)) := upd_same
  generalize (upd H2 l2 (.lst ((zs.take sp).map V.str))) = H3 at k2 h2 ⊢
  have rl : (zs.drop sp ++ zs.take sp).length = u := by rw [List.length_append, List.length_drop, List.length_take, zl]; omega
  refine ⟨l1, rfl, l2, rfl, _, k2 _ _ not0 h1, _, h2, small (by rw [List.length_map, List.length_map]; rw [List.length_append] at rl; omega), fun l3 nl3 => ?_⟩
  rw [← List.map_append]
  have k3 : Kp [] H3 (upd H3 l3 (.lst ((zs.drop sp ++ zs.take sp).map V.str))) := Kp.new nl3
  have h3 : (upd H3 l3 (.lst ((zs.drop sp ++ zs.take sp).map V.str))) l3 = some (.lst ((zs.drop sp ++ zs.take sp).map V.str)) := upd_same
  generalize (upd H3 l3 (.lst ((zs.drop sp ++ zs.take sp).map V.str))) = H4 at k3 h3 ⊢
  have k14 := (k1.trans k2).trans k3
  refine ⟨_, k14.ls not0 hsq, _, a9, .inl ⟨d9, rfl, by omega, ?_⟩⟩
  rw [ekk]
  refine ⟨l3, _, rfl, sq_l h3, fun l4 nl4 => ?_⟩
  rw [cut_0j]
  have ksm : ∀ z ∈ (zs.drop sp ++ zs.take sp).take kk, z ∈ zs := fun z hz => (List.mem_append.mp (List.mem_of_mem_take hz)).elim List.mem_of_mem_drop List.mem_of_mem_take
  have ksl : ((zs.drop sp ++ zs.take sp).take kk).length ≤ 6 := by rw [List.length_take, rl]; omega
  have ksn : (zs.drop sp ++ zs.take sp).take kk ≠ [] := fun e => by
    have := congrArg List.length e
    rw [List.length_take, rl] at this
    simp at this
    omega
  generalize (zs.drop sp ++ zs.take sp).take kk = ks at ksm ksl ksn ⊢
  have k4 : Kp [] H4 (upd H4 l4 (.lst (ks.map V.str))) := Kp.new nl4
  have h4 : (upd H4 l4 (.lst (ks.map V.str))) l4 = some (.lst (ks.map V.str)) := upd_same
  generalize (upd H4 l4 (.lst (ks.map V.str))) = H5 at k4 h4 ⊢
  have k15 := k14.trans k4
  have hL5 := hL.kp k15
  have ro : RwOn H5 d zs m c := by
    have := hL5.rw_
    rw [hzs] at this
    exact this.on nd
  refine ⟨t0, l4, nl, d, m, st, zs, ks, c, rfl, hT.kp k15, h4, ksn, by omega, ksm, k15 _ _ not0 hn, ro, fun H6 k6 => ?_⟩
  try simp only [tSeq, tIfS, tTest, tOp, tUn, tCB, tCons, tNil, tVar, tC, rI0, rI, rU, rEq, rNe, tRet, tRetN, tAsg, gName, gSub, tBM, tBM0, tNext, tB, tNot, tAnd, tOr, tIf, tCall, tDrop, tBreak, tCont, L2.start, tDGet, sDPut, tTup, tLst, tDNewK, tRevL, rCat, rAppend, rPop, rSetL, tAndV, tOrV, tNotV, tSl, tPart, tNoPart, tM1, gTup, gCons, gNil, cxK, cxnK, List.map_cons, List.map_nil, List.length_cons, List.length_nil, List.replicate, List.cons_append, List.nil_append, List.append_nil, List.set_cons_zero, List.set_cons_succ, List.getElem?_cons_zero, List.getElem?_cons_succ, Option.some.injEq, V.ref.injEq, V.int.injEq, V.str.injEq, V.bl.injEq, V.ty.injEq, exists_eq_left', exists_eq_left, exists_and_left, List.cons.injEq, and_true, true_and, sc_ii, sc_ss, sc_bb, sc_ni, sc_in, sc_is, sc_si, sc_nn, decide_true, decide_false, reduceCtorEq, Bool.false_eq_true, if_true, if_false, ite_true, ite_false, exists_const, eq_self, false_and, and_false, or_false, false_or, exists_false, Evl.rLenS, rSum, wipe, tYes, exists_eq, exists_eq', rIxL, rIxT, rIxS, exists_and_right, gt_iff_lt, not_true_eq_false, not_false_eq_true, Bool.not_true, Bool.not_false, decide_eq_true_eq, Nat.reduceSub, Nat.reduceAdd, List.append_assoc, tChain, tDIn, tDNotIn, sDDel, tAug, ipI]
  have k16 := k15.trans k6
  have csm : ∀ z ∈ cs, z ∈ zs := by rw [← hzs]; exact hL.cm
  refine ⟨_, k16.ls not0 hsq, _, a8, t0, cl, l4, n9, m, st, d8, zs, cs, ks, z9, n7, n8, c, rfl, hT.kp k16, k16 _ _ not0 hL.hc, hL.c100, csm, k6 _ _ not0 h4, ksn, ksl, ksm, b8, by omega, k16 _ _ not0 hL.h9, e7', e8', out e7' (by decide), out e8' (by decide), hL.nm _ (List.mem_of_getElem? e7'), hL.nm _ (List.mem_of_getElem? e8'), fun H7 k7 => ?_⟩
  try simp only [tSeq, tIfS, tTest, tOp, tUn, tCB, tCons, tNil, tVar, tC, rI0, rI, rU, rEq, rNe, tRet, tRetN, tAsg, gName, gSub, tBM, tBM0, tNext, tB, tNot, tAnd, tOr, tIf, tCall, tDrop, tBreak, tCont, L2.start, tDGet, sDPut, tTup, tLst, tDNewK, tRevL, rCat, rAppend, rPop, rSetL, tAndV, tOrV, tNotV, tSl, tPart, tNoPart, tM1, gTup, gCons, gNil, cxK, cxnK, List.map_cons, List.map_nil, List.length_cons, List.length_nil, List.replicate, List.cons_append, List.nil_append, List.append_nil, List.set_cons_zero, List.set_cons_succ, List.getElem?_cons_zero, List.getElem?_cons_succ, Option.some.injEq, V.ref.injEq, V.int.injEq, V.str.injEq, V.bl.injEq, V.ty.injEq, exists_eq_left', exists_eq_left, exists_and_left, List.cons.injEq, and_true, true_and, sc_ii, sc_ss, sc_bb, sc_ni, sc_in, sc_is, sc_si, sc_nn, decide_true, decide_false, reduceCtorEq, Bool.false_eq_true, if_true, if_false, ite_true, ite_false, exists_const, eq_self, false_and, and_false, or_false, false_or, exists_false, Evl.rLenS, rSum, wipe, tYes, exists_eq, exists_eq', rIxL, rIxT, rIxS, exists_and_right, gt_iff_lt, not_true_eq_false, not_false_eq_true, Bool.not_true, Bool.not_false, decide_eq_true_eq, Nat.reduceSub, Nat.reduceAdd, List.append_assoc, tChain, tDIn, tDNotIn, sDDel, tAug, ipI]
  have k17 := k16.trans k7
  refine ⟨t0, nl, d, m, st, zs, c, rfl, hT.kp k17, k17 _ _ not0 hn, ro.kp (k6.trans k7), fun H8 k8 => ?_⟩
  try simp only [tSeq, tIfS, tTest, tOp, tUn, tCB, tCons, tNil, tVar, tC, rI0, rI, rU, rEq, rNe, tRet, tRetN, tAsg, gName, gSub, tBM, tBM0, tNext, tB, tNot, tAnd, tOr, tIf, tCall, tDrop, tBreak, tCont, L2.start, tDGet, sDPut, tTup, tLst, tDNewK, tRevL, rCat, rAppend, rPop, rSetL, tAndV, tOrV, tNotV, tSl, tPart, tNoPart, tM1, gTup, gCons, gNil, cxK, cxnK, List.map_cons, List.map_nil, List.length_cons, List.length_nil, List.replicate, List.cons_append, List.nil_append, List.append_nil, List.set_cons_zero, List.set_cons_succ, List.getElem?_cons_zero, List.getElem?_cons_succ, Option.some.injEq, V.ref.injEq, V.int.injEq, V.str.injEq, V.bl.injEq, V.ty.injEq, exists_eq_left', exists_eq_left, exists_and_left, List.cons.injEq, and_true, true_and, sc_ii, sc_ss, sc_bb, sc_ni, sc_in, sc_is, sc_si, sc_nn, decide_true, decide_false, reduceCtorEq, Bool.false_eq_true, if_true, if_false, ite_true, ite_false, exists_const, eq_self, false_and, and_false, or_false, false_or, exists_false, Evl.rLenS, rSum, wipe, tYes, exists_eq, exists_eq', rIxL, rIxT, rIxS, exists_and_right, gt_iff_lt, not_true_eq_false, not_false_eq_true, Bool.not_true, Bool.not_false, decide_eq_true_eq, Nat.reduceSub, Nat.reduceAdd, List.append_assoc, tChain, tDIn, tDNotIn, sDDel, tAug, ipI]
  exact hq _ _ ⟨dl, n9, nl, d, cl, h, p, t0, ds, z9, u, m, st, cs, c, c10, _, _, rfl, hL.kp (k17.trans k8)⟩
theorem law_tail (T : BtV mg) {f : Addr} {cdv : Value} {A : Around} {outer : List Env} {s : Shared} {H : Hp} {Q : VK} {E : XK} (hr : Room 12 (A.deeper (PyProof.Rows.envOfC "law" (defScope s_law) s.heap.objs.size f cdv)))
    {TC : Addr} {f1 : Addr} {fd1 : FuncData} (D_law_spoilt : Df K mg "_law_spoilt" s_law_spoilt ["_law_script", "_law_nine", "_law_names_here", "_law_rows_here", "_law_kind"] f1 fd1) (G_law_spoilt : FnOk P w K mg base CX0 4 f1 fd1 ["_law_script", "_law_nine", "_law_names_here", "_law_rows_here", "_law_kind"] (spSpoilt K))
    {f2 : Addr} {fd2 : FuncData} (D_law_made : Df K mg "_law_made" s_law_made ["_law_items", "_law_start"] f2 fd2) (G_law_made : FnOk P w K mg base CX0 8 f2 fd2 ["_law_items", "_law_start"] spMade)
    {f3 : Addr} {fd3 : FuncData} (D_law_due : Df K mg "_law_due" s_law_due ["_law_items", "_law_start"] f3 fd3) (G_law_due : FnOk P w K mg base CX0 2 f3 fd3 ["_law_items", "_law_start"] spDueI)
    {a : Addr} {ns : List Int} (q : ∀ H', Q (.bl true) H') :
    ∃ t, PSs (cxOf CX0 P w K mg base ["_law_script", "_law_d", "_law_many", "_law_size", "_law_start", "_law_nine", "_law_names_here", "_law_rows_here", "_law_calls_here", "_law_handed", "_law_name", "_law_plain", "_law_table", "_law_spot", "_law_chosen", "_law_begun", "_law_items"] "law" (defScope s_law) f cdv A outer s H E).nox ((defBody s_law).drop 23) t ∧ ∀ σ H9, S23 K TC a ns σ H9 → t { nx := fun _ H' => Q .non H', rt := Q } σ H9 := by
  have hu := hu_of hr
  refine ⟨_, (pss_cons (ps_set (i := 15) sc_law.nd rfl (Or.inl rfl) (pe_ix (r := rIxL K) ix_list (pe_lst (pa_cons (pv 4) (pa_cons (pv 4) (pa_cons (pv 4) (pa_cons (pv 4) (pa_cons (pe_op op_sub (pv 3) pe_int) (pa_cons (pv 3) (pa_cons (pe_op op_add (pv 3) (pe_ix (r := rIxL K) ix_list (pv 1) pe_int (fun _ _ => rfl))) (pa_cons (pe_op op_sub (pe_un un_neg pe_int) (pe_ix (r := rIxL K) ix_list (pv 1) pe_int (fun _ _ => rfl))) pa_nil))))))))) (pe_ix (r := rIxL K) ix_list (pv 1) pe_int (fun _ _ => rfl)) (fun _ _ => rfl)))
      (pss_cons (ps_set (i := 16) sc_law.nd rfl (Or.inl rfl) (pe_call G_law_spoilt (hr.mono (by decide)) rfl D_law_spoilt.g D_law_spoilt.F.kp D_law_spoilt.b .nil pass0 (pa_cons (pv 0) (pa_cons (pv 5) (pa_cons (pv 6) (pa_cons (pv 7) (pa_cons (pe_ix (r := rIxL K) ix_list (pv 1) pe_int (fun _ _ => rfl)) pa_nil)))))))
      (pss_one (ps_ret (pe_cmpR (op_eqD hr.units) (pe_call G_law_made (hr.mono (by decide)) rfl D_law_made.g D_law_made.F.kp D_law_made.b .nil pass0 (pa_cons (pv 16) (pa_cons (pv 15) pa_nil))) (pe_call G_law_due (hr.mono (by decide)) rfl D_law_due.g D_law_due.F.kp D_law_due.b .nil pass0 (pa_cons (pv 16) (pa_cons (pv 15) pa_nil))) (nomark _)))))), ?_⟩
  rintro σ H1 ⟨dl, n9, nl, d, cl, h, p, t0, ds, z9, u, m, st, cs, c, c10, c13, c14, rfl, hL⟩
  obtain ⟨nd, zne, zl, nm⟩ := hL.z
  have u6 := hL.u6
  have u1 := hL.u1
  obtain ⟨d6, hsq, a6, e6, b6, c6⟩ := hL.bs.get (i := 6) (by decide) rfl
  obtain ⟨d8, _, a8, e8, b8, c8⟩ := hL.bs.get (i := 8) (by decide) rfl
  obtain ⟨d11, _, a11, e11, b11, c11⟩ := hL.bs.get (i := 11) (by decide) rfl
  try simp only [tSeq, tIfS, tTest, tOp, tUn, tCB, tCons, tNil, tVar, tC, rI0, rI, rU, rEq, rNe, tRet, tRetN, tAsg, gName, gSub, tBM, tBM0, tNext, tB, tNot, tAnd, tOr, tIf, tCall, tDrop, tBreak, tCont, L2.start, tDGet, sDPut, tTup, tLst, tDNewK, tRevL, rCat, rAppend, rPop, rSetL, tAndV, tOrV, tNotV, tSl, tPart, tNoPart, tM1, gTup, gCons, gNil, cxK, cxnK, List.map_cons, List.map_nil, List.length_cons, List.length_nil, List.replicate, List.cons_append, List.nil_append, List.append_nil, List.set_cons_zero, List.set_cons_succ, List.getElem?_cons_zero, List.getElem?_cons_succ, Option.some.injEq, V.ref.injEq, V.int.injEq, V.str.injEq, V.bl.injEq, V.ty.injEq, exists_eq_left', exists_eq_left, exists_and_left, List.cons.injEq, and_true, true_and, sc_ii, sc_ss, sc_bb, sc_ni, sc_in, sc_is, sc_si, sc_nn, decide_true, decide_false, reduceCtorEq, Bool.false_eq_true, if_true, if_false, ite_true, ite_false, exists_const, eq_self, false_and, and_false, or_false, false_or, exists_false, Evl.rLenS, rSum, wipe, tYes, exists_eq, exists_eq', rIxL, rIxT, rIxS, exists_and_right, gt_iff_lt, not_true_eq_false, not_false_eq_true, Bool.not_true, Bool.not_false, decide_eq_true_eq, Nat.reduceSub, Nat.reduceAdd, List.append_assoc, tChain, tDIn, tDNotIn, sDDel, tAug, ipI]
  refine ⟨_, hsq, _, a8, d8, rfl, _, hsq, _, a8, d8, rfl, by decide, fun p8 np8 => ?_⟩
  have k1 : Kp [] H1 (upd H1 p8 (.lst ([st, st, st, st, (m : Nat) - 1, (m : Nat), (m : Nat) + d8, -1 - d8].map V.int))) := Kp.new np8
  have h8 : (upd H1 p8 (.lst ([st, st, st, st, (m : Nat) - 1, (m : Nat), (m : Nat) + d8, -1 - d8].map V.int))) p8 = some (.lst ([st, st, st, st, (m : Nat) - 1, (m : Nat), (m : Nat) + d8, -1 - d8].map V.int)) := upd_same
  have hit : d11.toNat < ([st, st, st, st, (m : Nat) - 1, (m : Nat), (m : Nat) + d8, -1 - d8] : List Int).length := by show d11.toNat < 8; omega
  have ab : atI ([st, st, st, st, (m : Nat) - 1, (m : Nat), (m : Nat) + d8, -1 - d8].map V.int) d11 = some (.int ([st, st, st, st, (m : Nat) - 1, (m : Nat), (m : Nat) + d8, -1 - d8] : List Int)[d11.toNat]) := atI_of b11 (by rw [List.getElem?_map, List.getElem?_eq_getElem hit]; rfl)
  generalize ([st, st, st, st, (m : Nat) - 1, (m : Nat), (m : Nat) + d8, -1 - d8] : List Int)[d11.toNat] = b at ab
  refine ⟨_, k1.ls not0 hsq, _, a11, _, _, rfl, sq_l h8, _, ab, _, k1.ls not0 hsq, _, a6, ?_⟩
  have hL2 := hL.kp k1
  refine ⟨a, n9, nl, d, d6, ns, z9, u, m, c, rfl, ⟨hL2.bs.2.2, hL2.h9, hL.l9, hL.nd, hL.nm, hL2.hn, u1, u6, hL2.rw_.on nd, hL.m1, hL.m100, b6, c6⟩, fun r its H4 nr hi he k4 => ?_⟩
  refine ⟨r, its, b, rfl, hi, he.1, he.2.1, fun e H5 k5 => ?_, fun n e r2 H5 nr2 hr2 k5 => ?_⟩
  · refine ⟨r, its, b, rfl, hi.kp k5, he.1, fun _ H6 k6 => ?_, fun n e2 => by rw [e] at e2; cases e2⟩
    have sh : SeqAt.shaped .none = true := by decide +kernel
    refine ⟨.none, .none, .non, .non, sh, sh, ?_⟩
    rw [SeqAt.eqv_refl _ (SeqAt.canLay_of_shaped sh)]
    exact q _
  · refine ⟨r, its, b, rfl, hi.kp k5, he.1, (fun e2 => by rw [e] at e2; cases e2), fun n2 e2 r3 H6 nr3 hr3 k6 => ?_⟩
    rw [e] at e2
    cases e2
    have ft : Fit (.str n) := due_in he.2.2 e
    have sh : SeqAt.shaped (.list [.str n]) = true := (fitL fun d hd => by rw [List.mem_singleton.mp hd]; exact ft).1
    refine ⟨.list [.str n], .list [.str n], .lst (sq_l (k6 _ _ not0 hr2)) (.cons (.str _) .nil), .lst (sq_l hr3) (.cons (.str _) .nil), sh, sh, ?_⟩
    rw [SeqAt.eqv_refl _ (SeqAt.canLay_of_shaped sh)]
    exact q _
end
end My

set_option Elab.async false
set_option linter.all false
set_option maxRecDepth 100000
set_option maxHeartbeats 4000000
namespace My
open PySem L2 NdefX StX
def spLaw (K : PySem.W.Frag) : Sp := fun vs H Q _ => ∃ (a : Addr) (ns : List Int), vs = [.ref a] ∧ SqL K H a (ns.map V.int) ∧ ns.length ≤ 63 ∧ ∀ H', Q (.bl true) H'
theorem kb_first {K : PySem.W.Frag} {x qual : Str} {params : Arguments} {body : List Stmt} {scope : PySem.Scope} {dvs : List V} {f : Addr} {fd : FuncData} {ps ks : List Str} {n : Nat} (F : FunD K x qual params body scope dvs [] f fd) (nd : dvs ≠ [])
    (h : ∀ (T : Addr) (kV doc pm : Value) (an : Option Addr) (cdv ct : Value) (us its ws : List Value), us.length = n → its.length = dvs.length → ws.length = ks.length → ∃ k, bindArgs (PySem.W.fnOf x qual params body scope (.ref T) kV doc pm an cdv ct) { pos := us, kw := ks.zip ws } = seqItems? (.ref T) >>= k ∧ k (some its.toArray) = pure (ps.zip (us ++ ws))) :
    KBn K fd ps n ks (fun us ws => us ++ ws) (fun vs zs => vs ++ zs) := by
  obtain ⟨oc, od, dV, kV, doc, pm, an, cdv, ct, osl, rfl, lk, hcd, hd, hk⟩ := F.ex
  rcases hd with ⟨e, _⟩ | ⟨_, T, o, its, m, rfl, lT, eT, hv⟩
  · exact absurd e nd
  refine ⟨fun s us ws hK hu hw => ?_, fun h1 h2 => Vals.append h1 h2⟩
  obtain ⟨k, e1, e2⟩ := h T kV doc pm an cdv ct us its ws hu hv.length.symm hw
  exact PySem.W.binds_K hK rfl lT eT e1 e2
section
variable {P : Program} {w : World} {K : PySem.W.Frag} {mg : Str → Option Value} {base : Heap}
theorem ok_law {f : Addr} {fd : FuncData} (D : Df K mg "law" s_law ["_law_script"] f fd) (T : BtV mg)
    {TC BT NO fI fN : Addr} {fdI fdN : FuncData} {hdes : List Value} (C : TbC K mg TC) (M_Table : Mk K TC fI) (bI_Table : Binds K fdI ["self", "rows", "first"] []) (bD_Table : Binds K fdI ["self", "rows", "first"] hdes) (hd_Table : Vals [.int 0] hdes) (kb_Table : KBn K fdI ["self", "rows", "first"] 2 ["first"] (fun us ws => us ++ ws) (fun vs zs => vs ++ zs))
    (G_Table_init : FnOk P w K mg base (L2.CX P w) 6 fI fdI ["self", "rows", "first"] (spTI TC BT))
    (ME_Table_names : Meth K TC "names" fN) (bM_Table_names : Binds K fdN ["self"] []) (G_Table_names : FnOk P w K mg base CX0 1 fN fdN ["self"] (spTN TC))
    {g1 : Addr} {gd1 : FuncData} (D_law_draws : Df K mg "_law_draws" s_law_draws ["_law_script", "_law_at", "_law_bounds"] g1 gd1) (G_law_draws : FnOk P w K mg base CX0 2 g1 gd1 ["_law_script", "_law_at", "_law_bounds"] (spDraws K))
    {g2 : Addr} {gd2 : FuncData} (D_law_names : Df K mg "_law_names" s_law_names ["_law_script", "_law_at", "_law_many"] g2 gd2) (G_law_names : FnOk P w K mg base CX0 3 g2 gd2 ["_law_script", "_law_at", "_law_many"] (spNames K))
    {g3 : Addr} {gd3 : FuncData} (D_law_rows : Df K mg "_law_rows" s_law_rows ["_law_script", "_law_at", "_law_names_here", "_law_size", "_law_most"] g3 gd3) (G_law_rows : FnOk P w K mg base CX0 3 g3 gd3 ["_law_script", "_law_at", "_law_names_here", "_law_size", "_law_most"] (spRows K))
    {g4 : Addr} {gd4 : FuncData} (D_law_calls : Df K mg "_law_calls" s_law_calls ["_law_script", "_law_names_here"] g4 gd4) (G_law_calls : FnOk P w K mg base CX0 3 g4 gd4 ["_law_script", "_law_names_here"] (spCalls K))
    {f1 : Addr} {fd1 : FuncData} (D_law_same_rows : Df K mg "_law_same_rows" s_law_same_rows ["_law_handed", "_law_names_here", "_law_rows_here"] f1 fd1) (G_law_same_rows : FnOk P w K mg base CX0 1 f1 fd1 ["_law_handed", "_law_names_here", "_law_rows_here"] spSame)
    {f2 : Addr} {fd2 : FuncData} (D_law_spoil : Df K mg "_law_spoil" s_law_spoil ["_law_handed", "_law_names_here", "_law_rows_here"] f2 fd2) (G_law_spoil : FnOk P w K mg base CX0 1 f2 fd2 ["_law_handed", "_law_names_here", "_law_rows_here"] spSpoil)
    {f3 : Addr} {fd3 : FuncData} (D_law_bend : Df K mg "_law_bend" s_law_bend ["_law_told", "_law_odd"] f3 fd3) (G_law_bend : FnOk P w K mg base CX0 1 f3 fd3 ["_law_told", "_law_odd"] spBend)
    {f4 : Addr} {fd4 : FuncData} (D_law_tells : Df K mg "_law_tells" s_law_tells ["_law_table", "_law_names_here", "_law_rows_here", "_law_start"] f4 fd4) (G_law_tells : FnOk P w K mg base CX0 6 f4 fd4 ["_law_table", "_law_names_here", "_law_rows_here", "_law_start"] (spTells TC))
    {f5 : Addr} {fd5 : FuncData} (D_law_all_answers : Df K mg "_law_all_answers" s_law_all_answers ["_law_table", "_law_plain", "_law_rows_here", "_law_start", "_law_calls_here"] f5 fd5) (G_law_all_answers : FnOk P w K mg base CX0 7 f5 fd5 ["_law_table", "_law_plain", "_law_rows_here", "_law_start", "_law_calls_here"] (spAllA TC))
    {f6 : Addr} {fd6 : FuncData} (D_law_less : Df K mg "_law_less" s_law_less ["_law_table", "_law_chosen", "_law_names_here", "_law_rows_here", "_law_start"] f6 fd6) (G_law_less : FnOk P w K mg base CX0 9 f6 fd6 ["_law_table", "_law_chosen", "_law_names_here", "_law_rows_here", "_law_start"] (spLess TC))
    {f7 : Addr} {fd7 : FuncData} (D_law_refuses : Df K mg "_law_refuses" s_law_refuses ["_law_table", "_law_calls_here", "_law_chosen", "_law_size", "_law_far", "_law_nine"] f7 fd7) (G_law_refuses : FnOk P w K mg base CX0 10 f7 fd7 ["_law_table", "_law_calls_here", "_law_chosen", "_law_size", "_law_far", "_law_nine"] (spRefs TC))
    {f8 : Addr} {fd8 : FuncData} (D_law_spoilt : Df K mg "_law_spoilt" s_law_spoilt ["_law_script", "_law_nine", "_law_names_here", "_law_rows_here", "_law_kind"] f8 fd8) (G_law_spoilt : FnOk P w K mg base CX0 4 f8 fd8 ["_law_script", "_law_nine", "_law_names_here", "_law_rows_here", "_law_kind"] (spSpoilt K))
    {f9 : Addr} {fd9 : FuncData} (D_law_made : Df K mg "_law_made" s_law_made ["_law_items", "_law_start"] f9 fd9) (G_law_made : FnOk P w K mg base CX0 8 f9 fd9 ["_law_items", "_law_start"] spMade)
    {f10 : Addr} {fd10 : FuncData} (D_law_due : Df K mg "_law_due" s_law_due ["_law_items", "_law_start"] f10 fd10) (G_law_due : FnOk P w K mg base CX0 2 f10 fd10 ["_law_items", "_law_start"] spDueI) : FnOk P w K mg base CX0 13 f fd ["_law_script"] (spLaw K) := by
  refine D.F.ok sc_law (fun vs H Q E h => ?_) (fun cdv A outer s H vs Q E hr h => ?_)
  · obtain ⟨_, _, rfl, _⟩ := h
    rfl
  · obtain ⟨a, ns, rfl, hS, hl, q⟩ := h
    have hr12 : Room 12 (A.deeper (PyProof.Rows.envOfC "law" (defScope s_law) s.heap.objs.size f cdv)) := hr
    obtain ⟨t23, h23, q23⟩ := law_tail (P := P) (w := w) (K := K) (mg := mg) (base := base) (E := E) (H := H) (outer := outer) (TC := TC) (a := a) (ns := ns) T hr12 D_law_spoilt G_law_spoilt D_law_made G_law_made D_law_due G_law_due q
    obtain ⟨t19, h19, q19⟩ := law_p19 T hr12 D_law_less G_law_less D_law_refuses G_law_refuses D_law_tells G_law_tells h23 q23
    obtain ⟨t14, h14, q14⟩ := law_p14 (BT := BT) (NO := NO) T hr12 C ME_Table_names bM_Table_names G_Table_names D_law_same_rows G_law_same_rows D_law_spoil G_law_spoil D_law_bend G_law_bend D_law_tells G_law_tells D_law_all_answers G_law_all_answers h19 q19
    obtain ⟨t13, h13, q13⟩ := law_p13 T hr12 C M_Table bI_Table bD_Table hd_Table kb_Table G_Table_init h14 q14
    obtain ⟨t11, h11, q11⟩ := law_p11 T hr12 C M_Table bI_Table bD_Table hd_Table kb_Table G_Table_init h13 q13
    obtain ⟨t9, h9, q9⟩ := law_p9 T hr12 h11 q11
    obtain ⟨t6, h6, q6⟩ := law_p6 T hr12 D_law_rows G_law_rows D_law_calls G_law_calls h9 q9
    obtain ⟨t4, h4, q4⟩ := law_p4 T hr12 D_law_names G_law_names h6 q6
    obtain ⟨t3, h3, q3⟩ := law_p3 T hr12 h4 q4
    obtain ⟨t1, ht1, q1⟩ := law_p1 T hr12 h3 q3
    refine ⟨_, (pss_cons (ps_set (i := 1) sc_law.nd rfl (Or.inl rfl) (pe_call G_law_draws (hr.mono (by decide)) rfl D_law_draws.g D_law_draws.F.kp D_law_draws.b .nil pass0 (pa_cons (pv 0) (pa_cons pe_int (pa_cons (pe_lst (pa_cons pe_int (pa_cons pe_int (pa_cons pe_int (pa_cons pe_int (pa_cons pe_int (pa_cons pe_int (pa_cons pe_int (pa_cons pe_int (pa_cons (pe_op op_pow pe_int pe_int) (pa_cons pe_int (pa_cons pe_int (pa_cons pe_int pa_nil))))))))))))) pa_nil)))))
      ht1), ?_⟩
    try simp only [tSeq, tIfS, tTest, tOp, tUn, tCB, tCons, tNil, tVar, tC, rI0, rI, rU, rEq, rNe, tRet, tRetN, tAsg, gName, gSub, tBM, tBM0, tNext, tB, tNot, tAnd, tOr, tIf, tCall, tDrop, tBreak, tCont, L2.start, tDGet, sDPut, tTup, tLst, tDNewK, tRevL, rCat, rAppend, rPop, rSetL, tAndV, tOrV, tNotV, tSl, tPart, tNoPart, tM1, gTup, gCons, gNil, cxK, cxnK, List.map_cons, List.map_nil, List.length_cons, List.length_nil, List.replicate, List.cons_append, List.nil_append, List.append_nil, List.set_cons_zero, List.set_cons_succ, List.getElem?_cons_zero, List.getElem?_cons_succ, Option.some.injEq, V.ref.injEq, V.int.injEq, V.str.injEq, V.bl.injEq, V.ty.injEq, exists_eq_left', exists_eq_left, exists_and_left, List.cons.injEq, and_true, true_and, sc_ii, sc_ss, sc_bb, sc_ni, sc_in, sc_is, sc_si, sc_nn, decide_true, decide_false, reduceCtorEq, Bool.false_eq_true, if_true, if_false, ite_true, ite_false, exists_const, eq_self, false_and, and_false, or_false, false_or, exists_false, Evl.rLenS, rSum, wipe, tYes, exists_eq, exists_eq', rIxL, rIxT, rIxS, exists_and_right, gt_iff_lt, not_true_eq_false, not_false_eq_true, Bool.not_true, Bool.not_false, decide_eq_true_eq, Nat.reduceSub, Nat.reduceAdd, List.append_assoc, tChain, tDIn, tDNotIn, sDDel, tAug, ipI]
    have p9 : CPow 10 9 := ⟨by decide, by decide, by decide⟩
    refine ⟨p9, by decide, fun p np => ?_⟩
    have k1 : Kp [] H (upd H p (.lst (bL.map V.int))) := Kp.new np
    refine ⟨a, p, 0, ns, bL, rfl, ⟨k1.ls not0 hS, hl⟩, by decide, upd_same, by decide, by decide, fun dl ds H2 ndl hdl hds k2 => ?_⟩
    exact q1 _ _ ⟨dl, ds, rfl, hdl, hds, ⟨(k1.trans k2).ls not0 hS, hl⟩⟩
end
end My

set_option Elab.async false
set_option linter.all false
set_option maxRecDepth 100000
set_option maxHeartbeats 8000000
namespace My
open PySem L2 NdefX StX
theorem exm_sub {K : PySem.W.Frag} {S D : Addr} {b : Bool} (h1 : PySem.W.subIn K (.ref D) (.type "BaseException") = some true) (h2 : PySem.W.isClsIn K D = true) (h3 : PySem.W.typeIn K (.ref D) = some (.type "type"))
    (h4 : PySem.W.subIn K (.ref S) (.ref D) = some b) : PySem.W.exmOne K (.ref S) (.ref D) = some b := by
  have i2 : (PySem.W.clsIn K D).isSome = true := h2
  unfold PySem.W.exmOne
  simp [PySem.W.kitCls, h1, i2, h3, h4]
theorem kit_self {K : PySem.W.Frag} {S : Addr} : PySem.W.kitOne K (.ref S) (.ref S) = some true := by
  unfold PySem.W.kitOne
  rw [if_pos (beq_self_eq_true _)]
theorem kit_sub {K : PySem.W.Frag} {S D : Addr} {b : Bool} (h1 : ((Value.ref S) == (Value.ref D)) = false) (h2 : PySem.W.isClsIn K D = true) (h3 : PySem.W.typeIn K (.ref D) = some (.type "type")) (h4 : PySem.W.subIn K (.ref S) (.ref D) = some b) : PySem.W.kitOne K (.ref S) (.ref D) = some b := by
  have i2 : (PySem.W.clsIn K D).isSome = true := h2
  unfold PySem.W.kitOne
  rw [h1]
  simp [PySem.W.kitCls, i2, h3, h4]
theorem kit_ty {K : PySem.W.Frag} {S : Addr} {T : String} {b : Bool} (h1 : PySem.W.kitMeta T = true) (h4 : PySem.W.subIn K (.ref S) (.type T) = some b) : PySem.W.kitOne K (.ref S) (.type T) = some b := by
  unfold PySem.W.kitOne
  rw [if_neg (by rw [show ((Value.ref S) == (Value.type T)) = false from beq_eq_false_iff_ne.mpr (fun z => nomatch z)]; exact Bool.false_ne_true)]
  simp [PySem.W.kitCls, h1, h4]
theorem kit_any2 {K : PySem.W.Frag} {x a b : Value} (h1 : PySem.W.kitOne K x a = some false) (h2 : PySem.W.kitOne K x b = some false) : PySem.W.kitAny K x [a, b] = some false := by
  simp [PySem.W.kitAny, h1, h2]
theorem all_mk {l : PySem.W.OpenLaw} {w : World} {K : PySem.W.Frag} {h : Heap} {mg : Str → Option Value} {fa : Addr} (X : K.In h) (G : h.Ns mainGlobals mg) (hfa : mg "law" = some (.ref fa))
    {f0 : Addr}
    {od0 an0 : Option Addr}
    {sl0 : Array (Option Value)}
    {oc0 kV0 dc0 pm0 cd0 ct0 : Value}
    {f1 : Addr}
    {od1 an1 : Option Addr}
    {sl1 : Array (Option Value)}
    {oc1 kV1 dc1 pm1 cd1 ct1 : Value}
    {f2 : Addr}
    {od2 an2 : Option Addr}
    {sl2 : Array (Option Value)}
    {oc2 kV2 dc2 pm2 cd2 ct2 : Value}
    {f3 : Addr}
    {od3 an3 : Option Addr}
    {sl3 : Array (Option Value)}
    {oc3 kV3 dc3 pm3 cd3 ct3 : Value}
    {f4 : Addr}
    {od4 an4 : Option Addr}
    {sl4 : Array (Option Value)}
    {oc4 kV4 dc4 pm4 cd4 ct4 : Value}
    {f5 : Addr}
    {od5 an5 : Option Addr}
    {sl5 : Array (Option Value)}
    {oc5 kV5 dc5 pm5 cd5 ct5 : Value}
    {f6 : Addr}
    {od6 an6 : Option Addr}
    {sl6 : Array (Option Value)}
    {oc6 kV6 dc6 pm6 cd6 ct6 : Value}
    {f7 : Addr}
    {od7 an7 : Option Addr}
    {sl7 : Array (Option Value)}
    {oc7 kV7 dc7 pm7 cd7 ct7 : Value}
    {f8 : Addr}
    {od8 an8 : Option Addr}
    {sl8 : Array (Option Value)}
    {oc8 kV8 dc8 pm8 cd8 ct8 : Value}
    {f9 : Addr}
    {od9 an9 : Option Addr}
    {sl9 : Array (Option Value)}
    {oc9 kV9 dc9 pm9 cd9 ct9 : Value}
    {f10 : Addr}
    {od10 an10 : Option Addr}
    {sl10 : Array (Option Value)}
    {oc10 kV10 dc10 pm10 cd10 ct10 : Value}
    {f11 : Addr}
    {od11 an11 : Option Addr}
    {sl11 : Array (Option Value)}
    {oc11 kV11 dc11 pm11 cd11 ct11 : Value}
    {f12 : Addr}
    {od12 an12 : Option Addr}
    {sl12 : Array (Option Value)}
    {oc12 kV12 dc12 pm12 cd12 ct12 : Value}
    {f13 : Addr}
    {od13 an13 : Option Addr}
    {sl13 : Array (Option Value)}
    {oc13 kV13 dc13 pm13 cd13 ct13 : Value}
    {f14 : Addr}
    {od14 an14 : Option Addr}
    {sl14 : Array (Option Value)}
    {oc14 kV14 dc14 pm14 cd14 ct14 : Value}
    {f15 : Addr}
    {od15 an15 : Option Addr}
    {sl15 : Array (Option Value)}
    {oc15 kV15 dc15 pm15 cd15 ct15 : Value}
    {f16 : Addr}
    {od16 an16 : Option Addr}
    {sl16 : Array (Option Value)}
    {oc16 kV16 dc16 pm16 cd16 ct16 : Value}
    {f17 : Addr}
    {od17 an17 : Option Addr}
    {sl17 : Array (Option Value)}
    {oc17 kV17 dc17 pm17 cd17 ct17 : Value}
    {f18 : Addr}
    {od18 an18 : Option Addr}
    {sl18 : Array (Option Value)}
    {oc18 kV18 dc18 pm18 cd18 ct18 : Value}
    {f19 : Addr}
    {od19 an19 : Option Addr}
    {sl19 : Array (Option Value)}
    {oc19 kV19 dc19 pm19 cd19 ct19 : Value}
    {f20 : Addr}
    {od20 an20 : Option Addr}
    {sl20 : Array (Option Value)}
    {oc20 kV20 dc20 pm20 cd20 ct20 : Value}
    {f21 : Addr}
    {od21 an21 : Option Addr}
    {sl21 : Array (Option Value)}
    {oc21 kV21 dc21 pm21 cd21 ct21 : Value}
    {f22 : Addr}
    {od22 an22 : Option Addr}
    {sl22 : Array (Option Value)}
    {oc22 kV22 dc22 pm22 cd22 ct22 : Value}
    {f23 : Addr}
    {od23 an23 : Option Addr}
    {sl23 : Array (Option Value)}
    {oc23 kV23 dc23 pm23 cd23 ct23 : Value}
    {f24 : Addr}
    {od24 an24 : Option Addr}
    {sl24 : Array (Option Value)}
    {oc24 kV24 dc24 pm24 cd24 ct24 : Value}
    {f25 : Addr}
    {od25 an25 : Option Addr}
    {sl25 : Array (Option Value)}
    {oc25 kV25 dc25 pm25 cd25 ct25 : Value}
    {f26 : Addr}
    {od26 an26 : Option Addr}
    {sl26 : Array (Option Value)}
    {oc26 kV26 dc26 pm26 cd26 ct26 : Value}
    {f27 : Addr}
    {od27 an27 : Option Addr}
    {sl27 : Array (Option Value)}
    {oc27 kV27 dc27 pm27 cd27 ct27 : Value}
    {f28 : Addr}
    {od28 an28 : Option Addr}
    {sl28 : Array (Option Value)}
    {oc28 kV28 dc28 pm28 cd28 ct28 : Value}
    {f29 : Addr}
    {od29 an29 : Option Addr}
    {sl29 : Array (Option Value)}
    {oc29 kV29 dc29 pm29 cd29 ct29 : Value}
    {sL : Str}
    {tL : Tok}
    {tX6 : Tok}
    {tX1 : Tok}
    {BN feN ccN cdaN NN : Addr}
    {nmN qnN fileN : Str}
    {bsN bmN sbN : List Value}
    {snN : List Str}
    {abN : Bool}
    {coN : Option Bool}
    {ddN odN anN cdN ceN : Option Addr}
    {m0N m1N m2N m3N m5N : Option Value}
    {vsN : Array Value}
    {tfN : Tok}
    {slN csN czN : Array (Option Value)}
    {ocN kVN dcN pmN ctN clN cxN : Value}
    {BT feB ccB cdaB NB : Addr}
    {nmB qnB fileB : Str}
    {bsB bmB sbB : List Value}
    {snB : List Str}
    {abB : Bool}
    {coB : Option Bool}
    {ddB odB anB cdB ceB : Option Addr}
    {m0B m1B m2B m3B m5B : Option Value}
    {vsB : Array Value}
    {tfB : Tok}
    {slB csB czB : Array (Option Value)}
    {ocB kVB dcB pmB ctB clB cxB : Value}
    {NO feQ ccQ cdaQ NQ : Addr}
    {nmQ qnQ fileQ : Str}
    {bsQ bmQ sbQ : List Value}
    {snQ : List Str}
    {abQ : Bool}
    {coQ : Option Bool}
    {ddQ odQ anQ cdQ ceQ : Option Addr}
    {m0Q m1Q m2Q m3Q m5Q : Option Value}
    {vsQ : Array Value}
    {tfQ : Tok}
    {slQ csQ czQ : Array (Option Value)}
    {ocQ kVQ dcQ pmQ ctQ clQ cxQ : Value}
    {CE : Addr}
    {TC : Addr}
    {TD : Addr}
    {dtD : Option Addr}
    {itsD : Array Value}
    {ntD : Nat}
    {sqD : Array (Option Value)}
    {tcD : Value}
    {tkD : Tok}
    {fTI : Addr}
    {odTI anTI : Option Addr}
    {slTI : Array (Option Value)}
    {ocTI kVTI dcTI pmTI cdTI ctTI : Value}
    {fTN : Addr}
    {odTN anTN : Option Addr}
    {slTN : Array (Option Value)}
    {ocTN kVTN dcTN pmTN cdTN ctTN : Value}
    {fTO : Addr}
    {odTO anTO : Option Addr}
    {slTO : Array (Option Value)}
    {ocTO kVTO dcTO pmTO cdTO ctTO : Value}
    {fTA : Addr}
    {odTA anTA : Option Addr}
    {slTA : Array (Option Value)}
    {ocTA kVTA dcTA pmTA cdTA ctTA : Value}
    {fTK : Addr}
    {odTK anTK : Option Addr}
    {slTK : Array (Option Value)}
    {ocTK kVTK dcTK pmTK cdTK ctTK : Value}
    {fTW : Addr}
    {odTW anTW : Option Addr}
    {slTW : Array (Option Value)}
    {ocTW kVTW dcTW pmTW cdTW ctTW : Value}
    (a0 : PySem.W.nsIn K mainGlobals "is_name" = some (some (.ref f0)))
    (l0 : K.lookup f0 = some ⟨oc0, od0, .func (PySem.W.fnOf "is_name" "is_name" (defArgs s_is_name) (defBody s_is_name) (defScope s_is_name) .none kV0 dc0 pm0 an0 cd0 ct0), sl0⟩)
    (c0 : PySem.W.codeIn K cd0 "is_name" = true)
    (k0 : PySem.W.keepIn K (.ref f0) = true)
    (a1 : PySem.W.nsIn K mainGlobals "is_below" = some (some (.ref f1)))
    (l1 : K.lookup f1 = some ⟨oc1, od1, .func (PySem.W.fnOf "is_below" "is_below" (defArgs s_is_below) (defBody s_is_below) (defScope s_is_below) .none kV1 dc1 pm1 an1 cd1 ct1), sl1⟩)
    (c1 : PySem.W.codeIn K cd1 "is_below" = true)
    (k1 : PySem.W.keepIn K (.ref f1) = true)
    (a2 : PySem.W.nsIn K mainGlobals "is_number" = some (some (.ref f2)))
    (l2 : K.lookup f2 = some ⟨oc2, od2, .func (PySem.W.fnOf "is_number" "is_number" (defArgs s_is_number) (defBody s_is_number) (defScope s_is_number) .none kV2 dc2 pm2 an2 cd2 ct2), sl2⟩)
    (c2 : PySem.W.codeIn K cd2 "is_number" = true)
    (k2 : PySem.W.keepIn K (.ref f2) = true)
    (a3 : PySem.W.nsIn K mainGlobals "is_pair" = some (some (.ref f3)))
    (l3 : K.lookup f3 = some ⟨oc3, od3, .func (PySem.W.fnOf "is_pair" "is_pair" (defArgs s_is_pair) (defBody s_is_pair) (defScope s_is_pair) .none kV3 dc3 pm3 an3 cd3 ct3), sl3⟩)
    (c3 : PySem.W.codeIn K cd3 "is_pair" = true)
    (k3 : PySem.W.keepIn K (.ref f3) = true)
    (a4 : PySem.W.nsIn K mainGlobals "is_row" = some (some (.ref f4)))
    (l4 : K.lookup f4 = some ⟨oc4, od4, .func (PySem.W.fnOf "is_row" "is_row" (defArgs s_is_row) (defBody s_is_row) (defScope s_is_row) .none kV4 dc4 pm4 an4 cd4 ct4), sl4⟩)
    (c4 : PySem.W.codeIn K cd4 "is_row" = true)
    (k4 : PySem.W.keepIn K (.ref f4) = true)
    (a5 : PySem.W.nsIn K mainGlobals "check_rows" = some (some (.ref f5)))
    (l5 : K.lookup f5 = some ⟨oc5, od5, .func (PySem.W.fnOf "check_rows" "check_rows" (defArgs s_check_rows) (defBody s_check_rows) (defScope s_check_rows) .none kV5 dc5 pm5 an5 cd5 ct5), sl5⟩)
    (c5 : PySem.W.codeIn K cd5 "check_rows" = true)
    (k5 : PySem.W.keepIn K (.ref f5) = true)
    (a6 : PySem.W.nsIn K mainGlobals "_law_mixed" = some (some (.ref f6)))
    (l6 : K.lookup f6 = some ⟨oc6, od6, .func (PySem.W.fnOf "_law_mixed" "_law_mixed" (defArgs s_law_mixed) (defBody s_law_mixed) (defScope s_law_mixed) .none kV6 dc6 pm6 an6 cd6 ct6), sl6⟩)
    (c6 : PySem.W.codeIn K cd6 "_law_mixed" = true)
    (k6 : PySem.W.keepIn K (.ref f6) = true)
    (a7 : PySem.W.nsIn K mainGlobals "_law_draws" = some (some (.ref f7)))
    (l7 : K.lookup f7 = some ⟨oc7, od7, .func (PySem.W.fnOf "_law_draws" "_law_draws" (defArgs s_law_draws) (defBody s_law_draws) (defScope s_law_draws) .none kV7 dc7 pm7 an7 cd7 ct7), sl7⟩)
    (c7 : PySem.W.codeIn K cd7 "_law_draws" = true)
    (k7 : PySem.W.keepIn K (.ref f7) = true)
    (a8 : PySem.W.nsIn K mainGlobals "_law_names" = some (some (.ref f8)))
    (l8 : K.lookup f8 = some ⟨oc8, od8, .func (PySem.W.fnOf "_law_names" "_law_names" (defArgs s_law_names) (defBody s_law_names) (defScope s_law_names) .none kV8 dc8 pm8 an8 cd8 ct8), sl8⟩)
    (c8 : PySem.W.codeIn K cd8 "_law_names" = true)
    (k8 : PySem.W.keepIn K (.ref f8) = true)
    (a9 : PySem.W.nsIn K mainGlobals "_law_rows" = some (some (.ref f9)))
    (l9 : K.lookup f9 = some ⟨oc9, od9, .func (PySem.W.fnOf "_law_rows" "_law_rows" (defArgs s_law_rows) (defBody s_law_rows) (defScope s_law_rows) .none kV9 dc9 pm9 an9 cd9 ct9), sl9⟩)
    (c9 : PySem.W.codeIn K cd9 "_law_rows" = true)
    (k9 : PySem.W.keepIn K (.ref f9) = true)
    (a10 : PySem.W.nsIn K mainGlobals "_law_is_whole" = some (some (.ref f10)))
    (l10 : K.lookup f10 = some ⟨oc10, od10, .func (PySem.W.fnOf "_law_is_whole" "_law_is_whole" (defArgs s_law_is_whole) (defBody s_law_is_whole) (defScope s_law_is_whole) .none kV10 dc10 pm10 an10 cd10 ct10), sl10⟩)
    (c10 : PySem.W.codeIn K cd10 "_law_is_whole" = true)
    (k10 : PySem.W.keepIn K (.ref f10) = true)
    (a11 : PySem.W.nsIn K mainGlobals "_law_tells" = some (some (.ref f11)))
    (l11 : K.lookup f11 = some ⟨oc11, od11, .func (PySem.W.fnOf "_law_tells" "_law_tells" (defArgs s_law_tells) (defBody s_law_tells) (defScope s_law_tells) .none kV11 dc11 pm11 an11 cd11 ct11), sl11⟩)
    (c11 : PySem.W.codeIn K cd11 "_law_tells" = true)
    (k11 : PySem.W.keepIn K (.ref f11) = true)
    (a12 : PySem.W.nsIn K mainGlobals "_law_walk" = some (some (.ref f12)))
    (l12 : K.lookup f12 = some ⟨oc12, od12, .func (PySem.W.fnOf "_law_walk" "_law_walk" (defArgs s_law_walk) (defBody s_law_walk) (defScope s_law_walk) .none kV12 dc12 pm12 an12 cd12 ct12), sl12⟩)
    (c12 : PySem.W.codeIn K cd12 "_law_walk" = true)
    (k12 : PySem.W.keepIn K (.ref f12) = true)
    (a13 : PySem.W.nsIn K mainGlobals "_law_answers" = some (some (.ref f13)))
    (l13 : K.lookup f13 = some ⟨oc13, od13, .func (PySem.W.fnOf "_law_answers" "_law_answers" (defArgs s_law_answers) (defBody s_law_answers) (defScope s_law_answers) .none kV13 dc13 pm13 an13 cd13 ct13), sl13⟩)
    (c13 : PySem.W.codeIn K cd13 "_law_answers" = true)
    (k13 : PySem.W.keepIn K (.ref f13) = true)
    (a14 : PySem.W.nsIn K mainGlobals "_law_unknown" = some (some (.ref f14)))
    (l14 : K.lookup f14 = some ⟨oc14, od14, .func (PySem.W.fnOf "_law_unknown" "_law_unknown" (defArgs s_law_unknown) (defBody s_law_unknown) (defScope s_law_unknown) .none kV14 dc14 pm14 an14 cd14 ct14), sl14⟩)
    (c14 : PySem.W.codeIn K cd14 "_law_unknown" = true)
    (k14 : PySem.W.keepIn K (.ref f14) = true)
    (a15 : PySem.W.nsIn K mainGlobals "_law_bad_state" = some (some (.ref f15)))
    (l15 : K.lookup f15 = some ⟨oc15, od15, .func (PySem.W.fnOf "_law_bad_state" "_law_bad_state" (defArgs s_law_bad_state) (defBody s_law_bad_state) (defScope s_law_bad_state) .none kV15 dc15 pm15 an15 cd15 ct15), sl15⟩)
    (c15 : PySem.W.codeIn K cd15 "_law_bad_state" = true)
    (k15 : PySem.W.keepIn K (.ref f15) = true)
    (a16 : PySem.W.nsIn K mainGlobals "_law_none_named" = some (some (.ref f16)))
    (l16 : K.lookup f16 = some ⟨oc16, od16, .func (PySem.W.fnOf "_law_none_named" "_law_none_named" (defArgs s_law_none_named) (defBody s_law_none_named) (defScope s_law_none_named) .none kV16 dc16 pm16 an16 cd16 ct16), sl16⟩)
    (c16 : PySem.W.codeIn K cd16 "_law_none_named" = true)
    (k16 : PySem.W.keepIn K (.ref f16) = true)
    (a17 : PySem.W.nsIn K mainGlobals "_law_within" = some (some (.ref f17)))
    (l17 : K.lookup f17 = some ⟨oc17, od17, .func (PySem.W.fnOf "_law_within" "_law_within" (defArgs s_law_within) (defBody s_law_within) (defScope s_law_within) .none kV17 dc17 pm17 an17 cd17 ct17), sl17⟩)
    (c17 : PySem.W.codeIn K cd17 "_law_within" = true)
    (k17 : PySem.W.keepIn K (.ref f17) = true)
    (a18 : PySem.W.nsIn K mainGlobals "_law_is_name" = some (some (.ref f18)))
    (l18 : K.lookup f18 = some ⟨oc18, od18, .func (PySem.W.fnOf "_law_is_name" "_law_is_name" (defArgs s_law_is_name) (defBody s_law_is_name) (defScope s_law_is_name) .none kV18 dc18 pm18 an18 cd18 ct18), sl18⟩)
    (c18 : PySem.W.codeIn K cd18 "_law_is_name" = true)
    (k18 : PySem.W.keepIn K (.ref f18) = true)
    (a19 : PySem.W.nsIn K mainGlobals "_law_due" = some (some (.ref f19)))
    (l19 : K.lookup f19 = some ⟨oc19, od19, .func (PySem.W.fnOf "_law_due" "_law_due" (defArgs s_law_due) (defBody s_law_due) (defScope s_law_due) .none kV19 dc19 pm19 an19 cd19 ct19), sl19⟩)
    (c19 : PySem.W.codeIn K cd19 "_law_due" = true)
    (k19 : PySem.W.keepIn K (.ref f19) = true)
    (a20 : PySem.W.nsIn K mainGlobals "_law_made" = some (some (.ref f20)))
    (l20 : K.lookup f20 = some ⟨oc20, od20, .func (PySem.W.fnOf "_law_made" "_law_made" (defArgs s_law_made) (defBody s_law_made) (defScope s_law_made) .none kV20 dc20 pm20 an20 cd20 ct20), sl20⟩)
    (c20 : PySem.W.codeIn K cd20 "_law_made" = true)
    (k20 : PySem.W.keepIn K (.ref f20) = true)
    (a21 : PySem.W.nsIn K mainGlobals "_law_spoilt" = some (some (.ref f21)))
    (l21 : K.lookup f21 = some ⟨oc21, od21, .func (PySem.W.fnOf "_law_spoilt" "_law_spoilt" (defArgs s_law_spoilt) (defBody s_law_spoilt) (defScope s_law_spoilt) .none kV21 dc21 pm21 an21 cd21 ct21), sl21⟩)
    (c21 : PySem.W.codeIn K cd21 "_law_spoilt" = true)
    (k21 : PySem.W.keepIn K (.ref f21) = true)
    (a22 : PySem.W.nsIn K mainGlobals "_law_refuses" = some (some (.ref f22)))
    (l22 : K.lookup f22 = some ⟨oc22, od22, .func (PySem.W.fnOf "_law_refuses" "_law_refuses" (defArgs s_law_refuses) (defBody s_law_refuses) (defScope s_law_refuses) .none kV22 dc22 pm22 an22 cd22 ct22), sl22⟩)
    (c22 : PySem.W.codeIn K cd22 "_law_refuses" = true)
    (k22 : PySem.W.keepIn K (.ref f22) = true)
    (a23 : PySem.W.nsIn K mainGlobals "_law_calls" = some (some (.ref f23)))
    (l23 : K.lookup f23 = some ⟨oc23, od23, .func (PySem.W.fnOf "_law_calls" "_law_calls" (defArgs s_law_calls) (defBody s_law_calls) (defScope s_law_calls) .none kV23 dc23 pm23 an23 cd23 ct23), sl23⟩)
    (c23 : PySem.W.codeIn K cd23 "_law_calls" = true)
    (k23 : PySem.W.keepIn K (.ref f23) = true)
    (a24 : PySem.W.nsIn K mainGlobals "_law_all_answers" = some (some (.ref f24)))
    (l24 : K.lookup f24 = some ⟨oc24, od24, .func (PySem.W.fnOf "_law_all_answers" "_law_all_answers" (defArgs s_law_all_answers) (defBody s_law_all_answers) (defScope s_law_all_answers) .none kV24 dc24 pm24 an24 cd24 ct24), sl24⟩)
    (c24 : PySem.W.codeIn K cd24 "_law_all_answers" = true)
    (k24 : PySem.W.keepIn K (.ref f24) = true)
    (a25 : PySem.W.nsIn K mainGlobals "_law_spoil" = some (some (.ref f25)))
    (l25 : K.lookup f25 = some ⟨oc25, od25, .func (PySem.W.fnOf "_law_spoil" "_law_spoil" (defArgs s_law_spoil) (defBody s_law_spoil) (defScope s_law_spoil) .none kV25 dc25 pm25 an25 cd25 ct25), sl25⟩)
    (c25 : PySem.W.codeIn K cd25 "_law_spoil" = true)
    (k25 : PySem.W.keepIn K (.ref f25) = true)
    (a26 : PySem.W.nsIn K mainGlobals "_law_same_rows" = some (some (.ref f26)))
    (l26 : K.lookup f26 = some ⟨oc26, od26, .func (PySem.W.fnOf "_law_same_rows" "_law_same_rows" (defArgs s_law_same_rows) (defBody s_law_same_rows) (defScope s_law_same_rows) .none kV26 dc26 pm26 an26 cd26 ct26), sl26⟩)
    (c26 : PySem.W.codeIn K cd26 "_law_same_rows" = true)
    (k26 : PySem.W.keepIn K (.ref f26) = true)
    (a27 : PySem.W.nsIn K mainGlobals "_law_bend" = some (some (.ref f27)))
    (l27 : K.lookup f27 = some ⟨oc27, od27, .func (PySem.W.fnOf "_law_bend" "_law_bend" (defArgs s_law_bend) (defBody s_law_bend) (defScope s_law_bend) .none kV27 dc27 pm27 an27 cd27 ct27), sl27⟩)
    (c27 : PySem.W.codeIn K cd27 "_law_bend" = true)
    (k27 : PySem.W.keepIn K (.ref f27) = true)
    (a28 : PySem.W.nsIn K mainGlobals "_law_less" = some (some (.ref f28)))
    (l28 : K.lookup f28 = some ⟨oc28, od28, .func (PySem.W.fnOf "_law_less" "_law_less" (defArgs s_law_less) (defBody s_law_less) (defScope s_law_less) .none kV28 dc28 pm28 an28 cd28 ct28), sl28⟩)
    (c28 : PySem.W.codeIn K cd28 "_law_less" = true)
    (k28 : PySem.W.keepIn K (.ref f28) = true)
    (a29 : PySem.W.nsIn K mainGlobals "law" = some (some (.ref f29)))
    (l29 : K.lookup f29 = some ⟨oc29, od29, .func (PySem.W.fnOf "law" "law" (defArgs s_law) (defBody s_law) (defScope s_law) .none kV29 dc29 pm29 an29 cd29 ct29), sl29⟩)
    (c29 : PySem.W.codeIn K cd29 "law" = true)
    (k29 : PySem.W.keepIn K (.ref f29) = true)
    (z_isinstance : PySem.W.nsIn K mainGlobals "isinstance" = some none)
    (z_str : PySem.W.nsIn K mainGlobals "str" = some none)
    (z_int : PySem.W.nsIn K mainGlobals "int" = some none)
    (z_bool : PySem.W.nsIn K mainGlobals "bool" = some none)
    (z_tuple : PySem.W.nsIn K mainGlobals "tuple" = some none)
    (z_list : PySem.W.nsIn K mainGlobals "list" = some none)
    (z_len : PySem.W.nsIn K mainGlobals "len" = some none)
    (z_all : PySem.W.nsIn K mainGlobals "all" = some none)
    (z_abs : PySem.W.nsIn K mainGlobals "abs" = some none)
    (z_range : PySem.W.nsIn K mainGlobals "range" = some none)
    (z_ValueError : PySem.W.nsIn K mainGlobals "ValueError" = some none)
    (z_super : PySem.W.nsIn K mainGlobals "super" = some none)
    (gL : PySem.W.nsIn K mainGlobals "LETTERS" = some (some (.str sL tL)))
    (eL : sL = lets)
    (gX6 : PySem.W.nsIn K mainGlobals "MOST_OPERATIONS" = some (some (.int 6 tX6)))
    (gX1 : PySem.W.nsIn K mainGlobals "MOST_STATES" = some (some (.int 100 tX1)))
    (aN : PySem.W.nsIn K mainGlobals "BadNumber" = some (some (.ref BN)))
    (xN : K.lookup BN = some (excClassObj nmN qnN BN NN bsN bmN true snN sbN abN coN ddN m0N m1N m2N m3N m5N "ValueError.__new__"))
    (rN : PySem.HandSPX.refsVE bmN = true)
    (b1N : PySem.W.findIn K (.ref BN) "__setattr__" = some (some (.builtin "object.__setattr__")))
    (q1N : PySem.W.subIn K (.ref BN) (.type "BaseException") = some true)
    (q2N : PySem.W.isClsIn K BN = true)
    (q3N : PySem.W.typeIn K (.ref BN) = some (.type "type"))
    (b4N : PySem.W.keepIn K (.ref BN) = true)
    (b5N : PySem.W.findIn K (.ref BN) "__init__" = some (some (.ref feN)))
    (b6N : PySem.W.typeIn K (.ref feN) = some (.type "function"))
    (lN : K.lookup feN = some ⟨ocN, odN, .func (PySem.W.fnX "__init__" "BadNumber.__init__" (defArgs s_BadNumber_init) (defBody s_BadNumber_init) (defScope s_BadNumber_init) [("__class__", ccN)] .none kVN dcN pmN anN (.ref cdaN) ctN), slN⟩)
    (cN : PySem.W.codeIn K (.ref cdaN) "BadNumber.__init__" = true)
    (kN : PySem.W.keepIn K (.ref feN) = true)
    (eN : K.lookup ccN = some ⟨clN, cdN, .cell (some (.ref BN)), csN⟩)
    (b7N : PySem.W.ks_superIn K BN BN "__init__" = some (some (.builtin "ValueError.__init__")))
    (b8N : PySem.W.subIn K (.ref BN) (.type "ValueError") = some true)
    (b9 : PySem.W.nsIn K cStatics "thirdparty.any" = some none)
    (b14 : (l.prog.main.scope.names.lookup ("super" : Str)).isSome = false)
    (b31 : PySem.W.kitMeta "ValueError" = true)
    (p12 : PySem.W.specialIn K (.builtin "object.__class__") "__get__" = some (some (.builtin "getset_descriptor.__get__")))
    (p13 : PySem.W.takesIn K (.builtin "object.__class__") = some true)
    (b10N : PySem.W.mroIn K BN (.ref BN) = some true)
    (b11N : K.lookup cdaN = some ⟨cxN, ceN, .fields vsN, czN⟩)
    (b12N : vsN[2]? = some (.str fileN tfN))
    (b13N : ((l.prog.main.file : Str) == fileN) = true)
    (b15N : PySem.W.findIn K (.ref BN) "number" = some none)
    (b17N : PySem.W.findIn K (.ref BN) "__getattribute__" = some (some (.builtin "BaseException.__getattribute__")))
    (b18N : PySem.W.findIn K (.ref BN) "__getattr__" = some none)
    (b19N : PySem.W.hasDictIn K BN = true)
    (b25N : PySem.W.findIn K (.ref BN) "__class__" = some (some (.builtin "object.__class__")))
    (b26N : PySem.W.mroIn K BN (.type "object") = some true)
    (aB : PySem.W.nsIn K mainGlobals "BadTable" = some (some (.ref BT)))
    (xB : K.lookup BT = some (excClassObj nmB qnB BT NB bsB bmB true snB sbB abB coB ddB m0B m1B m2B m3B m5B "ValueError.__new__"))
    (rB : PySem.HandSPX.refsVE bmB = true)
    (b1B : PySem.W.findIn K (.ref BT) "__setattr__" = some (some (.builtin "object.__setattr__")))
    (q1B : PySem.W.subIn K (.ref BT) (.type "BaseException") = some true)
    (q2B : PySem.W.isClsIn K BT = true)
    (q3B : PySem.W.typeIn K (.ref BT) = some (.type "type"))
    (b4B : PySem.W.keepIn K (.ref BT) = true)
    (b5B : PySem.W.findIn K (.ref BT) "__init__" = some (some (.ref feB)))
    (b6B : PySem.W.typeIn K (.ref feB) = some (.type "function"))
    (lB : K.lookup feB = some ⟨ocB, odB, .func (PySem.W.fnX "__init__" "BadTable.__init__" (defArgs s_BadTable_init) (defBody s_BadTable_init) (defScope s_BadTable_init) [("__class__", ccB)] .none kVB dcB pmB anB (.ref cdaB) ctB), slB⟩)
    (cB : PySem.W.codeIn K (.ref cdaB) "BadTable.__init__" = true)
    (kB : PySem.W.keepIn K (.ref feB) = true)
    (eB : K.lookup ccB = some ⟨clB, cdB, .cell (some (.ref BT)), csB⟩)
    (b7B : PySem.W.ks_superIn K BT BT "__init__" = some (some (.builtin "ValueError.__init__")))
    (b8B : PySem.W.subIn K (.ref BT) (.type "ValueError") = some true)
    (b10B : PySem.W.mroIn K BT (.ref BT) = some true)
    (b11B : K.lookup cdaB = some ⟨cxB, ceB, .fields vsB, czB⟩)
    (b12B : vsB[2]? = some (.str fileB tfB))
    (b13B : ((l.prog.main.file : Str) == fileB) = true)
    (b15B : PySem.W.findIn K (.ref BT) "name" = some none)
    (b17B : PySem.W.findIn K (.ref BT) "__getattribute__" = some (some (.builtin "BaseException.__getattribute__")))
    (b18B : PySem.W.findIn K (.ref BT) "__getattr__" = some none)
    (b19B : PySem.W.hasDictIn K BT = true)
    (b25B : PySem.W.findIn K (.ref BT) "__class__" = some (some (.builtin "object.__class__")))
    (b26B : PySem.W.mroIn K BT (.type "object") = some true)
    (aQ : PySem.W.nsIn K mainGlobals "NoOperation" = some (some (.ref NO)))
    (xQ : K.lookup NO = some (excClassObj nmQ qnQ NO NQ bsQ bmQ true snQ sbQ abQ coQ ddQ m0Q m1Q m2Q m3Q m5Q "ValueError.__new__"))
    (rQ : PySem.HandSPX.refsVE bmQ = true)
    (b1Q : PySem.W.findIn K (.ref NO) "__setattr__" = some (some (.builtin "object.__setattr__")))
    (q1Q : PySem.W.subIn K (.ref NO) (.type "BaseException") = some true)
    (q2Q : PySem.W.isClsIn K NO = true)
    (q3Q : PySem.W.typeIn K (.ref NO) = some (.type "type"))
    (b4Q : PySem.W.keepIn K (.ref NO) = true)
    (b5Q : PySem.W.findIn K (.ref NO) "__init__" = some (some (.ref feQ)))
    (b6Q : PySem.W.typeIn K (.ref feQ) = some (.type "function"))
    (lQ : K.lookup feQ = some ⟨ocQ, odQ, .func (PySem.W.fnX "__init__" "NoOperation.__init__" (defArgs s_NoOperation_init) (defBody s_NoOperation_init) (defScope s_NoOperation_init) [("__class__", ccQ)] .none kVQ dcQ pmQ anQ (.ref cdaQ) ctQ), slQ⟩)
    (cQ : PySem.W.codeIn K (.ref cdaQ) "NoOperation.__init__" = true)
    (kQ : PySem.W.keepIn K (.ref feQ) = true)
    (eQ : K.lookup ccQ = some ⟨clQ, cdQ, .cell (some (.ref NO)), csQ⟩)
    (b7Q : PySem.W.ks_superIn K NO NO "__init__" = some (some (.builtin "ValueError.__init__")))
    (b8Q : PySem.W.subIn K (.ref NO) (.type "ValueError") = some true)
    (b10Q : PySem.W.mroIn K NO (.ref NO) = some true)
    (b11Q : K.lookup cdaQ = some ⟨cxQ, ceQ, .fields vsQ, czQ⟩)
    (b12Q : vsQ[2]? = some (.str fileQ tfQ))
    (b13Q : ((l.prog.main.file : Str) == fileQ) = true)
    (b15Q : PySem.W.findIn K (.ref NO) "name" = some none)
    (b17Q : PySem.W.findIn K (.ref NO) "__getattribute__" = some (some (.builtin "BaseException.__getattribute__")))
    (b18Q : PySem.W.findIn K (.ref NO) "__getattr__" = some none)
    (b19Q : PySem.W.hasDictIn K NO = true)
    (b25Q : PySem.W.findIn K (.ref NO) "__class__" = some (some (.builtin "object.__class__")))
    (b26Q : PySem.W.mroIn K NO (.type "object") = some true)
    (aC : PySem.W.nsIn K mainGlobals "CoreError" = some (some (.ref CE)))
    (q1C : PySem.W.subIn K (.ref CE) (.type "BaseException") = some true)
    (q2C : PySem.W.isClsIn K CE = true)
    (q3C : PySem.W.typeIn K (.ref CE) = some (.type "type"))
    (aT : PySem.W.nsIn K mainGlobals "Table" = some (some (.ref TC)))
    (p1T : PySem.W.plainGet K TC Str.empty = true)
    (p2T : PySem.W.hasDictIn K TC = true)
    (p3T : PySem.W.plainOver K TC = true)
    (p4T : PySem.W.findIn K (.ref TC) "__setattr__" = some (some (.builtin "object.__setattr__")))
    (n0T : PySem.W.findIn K (.ref TC) "size" = some none)
    (n1T : PySem.W.findIn K (.ref TC) "first" = some none)
    (n2T : PySem.W.findIn K (.ref TC) "_rows" = some none)
    (p9T : PySem.W.keepIn K (.ref TC) = true)
    (p5T : PySem.W.makesIn K TC = true)
    (mTI : PySem.W.findIn K (.ref TC) "__init__" = some (some (.ref fTI)))
    (hTI : PySem.W.isFn K (.ref fTI) = true)
    (lTI : K.lookup fTI = some ⟨ocTI, odTI, .func (PySem.W.fnOf "__init__" "Table.__init__" (defArgs s_Table_init) (defBody s_Table_init) (defScope s_Table_init) (.ref TD) kVTI dcTI pmTI anTI cdTI ctTI), slTI⟩)
    (cTI : PySem.W.codeIn K cdTI "Table.__init__" = true)
    (kTI : PySem.W.keepIn K (.ref fTI) = true)
    (mTN : PySem.W.findIn K (.ref TC) "names" = some (some (.ref fTN)))
    (hTN : PySem.W.isFn K (.ref fTN) = true)
    (lTN : K.lookup fTN = some ⟨ocTN, odTN, .func (PySem.W.fnOf "names" "Table.names" (defArgs s_Table_names) (defBody s_Table_names) (defScope s_Table_names) .none kVTN dcTN pmTN anTN cdTN ctTN), slTN⟩)
    (cTN : PySem.W.codeIn K cdTN "Table.names" = true)
    (kTN : PySem.W.keepIn K (.ref fTN) = true)
    (mTO : PySem.W.findIn K (.ref TC) "__call__" = some (some (.ref fTO)))
    (hTO : PySem.W.isFn K (.ref fTO) = true)
    (lTO : K.lookup fTO = some ⟨ocTO, odTO, .func (PySem.W.fnOf "__call__" "Table.__call__" (defArgs s_Table_call) (defBody s_Table_call) (defScope s_Table_call) .none kVTO dcTO pmTO anTO cdTO ctTO), slTO⟩)
    (cTO : PySem.W.codeIn K cdTO "Table.__call__" = true)
    (kTO : PySem.W.keepIn K (.ref fTO) = true)
    (mTA : PySem.W.findIn K (.ref TC) "answers" = some (some (.ref fTA)))
    (hTA : PySem.W.isFn K (.ref fTA) = true)
    (lTA : K.lookup fTA = some ⟨ocTA, odTA, .func (PySem.W.fnOf "answers" "Table.answers" (defArgs s_Table_answers) (defBody s_Table_answers) (defScope s_Table_answers) .none kVTA dcTA pmTA anTA cdTA ctTA), slTA⟩)
    (cTA : PySem.W.codeIn K cdTA "Table.answers" = true)
    (kTA : PySem.W.keepIn K (.ref fTA) = true)
    (mTK : PySem.W.findIn K (.ref TC) "check_name" = some (some (.ref fTK)))
    (hTK : PySem.W.isFn K (.ref fTK) = true)
    (lTK : K.lookup fTK = some ⟨ocTK, odTK, .func (PySem.W.fnOf "check_name" "Table.check_name" (defArgs s_Table_check_name) (defBody s_Table_check_name) (defScope s_Table_check_name) .none kVTK dcTK pmTK anTK cdTK ctTK), slTK⟩)
    (cTK : PySem.W.codeIn K cdTK "Table.check_name" = true)
    (kTK : PySem.W.keepIn K (.ref fTK) = true)
    (mTW : PySem.W.findIn K (.ref TC) "only" = some (some (.ref fTW)))
    (hTW : PySem.W.isFn K (.ref fTW) = true)
    (lTW : K.lookup fTW = some ⟨ocTW, odTW, .func (PySem.W.fnOf "only" "Table.only" (defArgs s_Table_only) (defBody s_Table_only) (defScope s_Table_only) .none kVTW dcTW pmTW anTW cdTW ctTW), slTW⟩)
    (cTW : PySem.W.codeIn K cdTW "Table.only" = true)
    (kTW : PySem.W.keepIn K (.ref fTW) = true)
    (iTO : PySem.W.fnIn K fTO = true)
    (vD : K.lookup TD = some ⟨tcD, dtD, .seq itsD ntD, sqD⟩)
    (uD : itsD = #[.int 0 tkD])
    (sNO : PySem.W.subIn K (.ref NO) (.ref NO) = some true)
    (sNOC : PySem.W.subIn K (.ref NO) (.ref CE) = some true)
    (eNOC : ((Value.ref NO) == (Value.ref CE)) = false)
    (sBN : PySem.W.subIn K (.ref BN) (.ref BN) = some true)
    (sBNC : PySem.W.subIn K (.ref BN) (.ref CE) = some true)
    (eBNC : ((Value.ref BN) == (Value.ref CE)) = false)
    (sBT : PySem.W.subIn K (.ref BT) (.ref BT) = some true)
    (sBTC : PySem.W.subIn K (.ref BT) (.ref CE) = some true)
    (eBTC : ((Value.ref BT) == (Value.ref CE)) = false)
    (sNOBT : PySem.W.subIn K (.ref NO) (.ref BT) = some false)
    (eNOBT : ((Value.ref NO) == (Value.ref BT)) = false)
    (sBNBT : PySem.W.subIn K (.ref BN) (.ref BT) = some false)
    (eBNBT : ((Value.ref BN) == (Value.ref BT)) = false)
    (sBNNO : PySem.W.subIn K (.ref BN) (.ref NO) = some false)
    (eBNNO : ((Value.ref BN) == (Value.ref NO)) = false)
    (sBTNO : PySem.W.subIn K (.ref BT) (.ref NO) = some false)
    (eBTNO : ((Value.ref BT) == (Value.ref NO)) = false)
    (sBTBN : PySem.W.subIn K (.ref BT) (.ref BN) = some false)
    (eBTBN : ((Value.ref BT) == (Value.ref BN)) = false) :
    ∃ fd : FuncData, (∀ (s : Shared) (v : Value), BindsTo s fd ⟨[v], []⟩ [("_law_script", v)]) ∧ ∀ base : Heap, K.In base → base.Ns mainGlobals mg → FnOk l.prog w K mg base CX0 13 fa fd ["_law_script"] (spLaw K) := by
  cases hfa.symm.trans (PySem.W.mg_of X G a29)
  subst eL uD
  refine ⟨PySem.W.fnOf "law" "law" (defArgs s_law) (defBody s_law) (defScope s_law) .none kV29 dc29 pm29 an29 cd29 ct29, fun s v => .of_eq rfl, fun base _ _ => ?_⟩
  have T1 : Bt mg tL tX1 tX6 := ⟨(PySem.W.mg_none_of X G z_isinstance), (PySem.W.mg_none_of X G z_str), (PySem.W.mg_none_of X G z_int), (PySem.W.mg_none_of X G z_bool), (PySem.W.mg_none_of X G z_tuple), (PySem.W.mg_none_of X G z_list), (PySem.W.mg_none_of X G z_len), (PySem.W.mg_none_of X G z_all), (PySem.W.mg_of X G gL), (PySem.W.mg_of X G gX1), (PySem.W.mg_of X G gX6)⟩
  have TG : BtG mg := ⟨(PySem.W.mg_none_of X G z_int), (PySem.W.mg_none_of X G z_len), (PySem.W.mg_none_of X G z_abs)⟩
  have TN : BtN mg := ⟨(PySem.W.mg_none_of X G z_int), (PySem.W.mg_none_of X G z_len), (PySem.W.mg_none_of X G z_range)⟩
  have TLi : BtL mg := ⟨(PySem.W.mg_none_of X G z_list)⟩
  have TD_ : BtD mg := ⟨(PySem.W.mg_none_of X G z_len), (PySem.W.mg_none_of X G z_range), (PySem.W.mg_none_of X G z_isinstance), (PySem.W.mg_none_of X G z_list), (PySem.W.mg_none_of X G z_tuple), (PySem.W.mg_none_of X G z_int)⟩
  have TW_ : BtW mg := ⟨(PySem.W.mg_none_of X G z_int), (PySem.W.mg_none_of X G z_isinstance), (PySem.W.mg_none_of X G z_bool)⟩
  have TI_ : BtI mg := ⟨(PySem.W.mg_none_of X G z_len)⟩
  have TU : BtU mg := ⟨(PySem.W.mg_none_of X G z_len), (PySem.W.mg_none_of X G z_isinstance), (PySem.W.mg_none_of X G z_tuple)⟩
  have TRf : BtRf mg := ⟨(PySem.W.mg_none_of X G z_len), (PySem.W.mg_none_of X G z_int)⟩
  have TS : BtS mg := ⟨(PySem.W.mg_none_of X G z_len), (PySem.W.mg_none_of X G z_list), (PySem.W.mg_none_of X G z_int)⟩
  have TV : BtV mg := ⟨(PySem.W.mg_none_of X G z_int), (PySem.W.mg_none_of X G z_list)⟩
  have OXN : OexC K BN := ⟨⟨nmN, qnN, NN, bsN, bmN, snN, sbN, abN, coN, ddN, m0N, m1N, m2N, m3N, m5N, xN, rN⟩, b1N, q1N, q3N, b4N⟩
  have ECN : ErrC K BN := ⟨OXN, b7N, b8N, b9, b10N⟩
  have CFN : CodeF K l.prog cdaN := ⟨⟨cxN, ceN, vsN, czN, fileN, tfN, b11N, b12N, b13N⟩, b14⟩
  have FXN : FunX K "__init__" "BadNumber.__init__" s_BadNumber_init feN _ ccN cdaN BN := ⟨⟨ocN, odN, kVN, dcN, pmN, anN, ctN, slN, rfl, lN, cN⟩, ⟨clN, cdN, csN, eN⟩, kN⟩
  have KTN : KitC K BN := ⟨q2N, b17N, b18N, q1N, b25N, p12, p13, b26N⟩
  have GXN := ok_BadNumber_init (P := l.prog) (w := w) (base := base) (mg := mg) (CX := L2.CX l.prog w) (Pf := (fun _ => True)) FXN ECN CFN (PySem.W.mg_none_of X G z_super) b15N
  have ERN : Er1 l.prog w K mg base "BadNumber" "number" BN feN _ ["self", "number"] (fun _ => True) := ⟨(PySem.W.mg_of X G aN), OXN, b5N, b6N, .all fun us hl => match us, hl with | [_, _], _ => rfl, GXN⟩
  have OXB : OexC K BT := ⟨⟨nmB, qnB, NB, bsB, bmB, snB, sbB, abB, coB, ddB, m0B, m1B, m2B, m3B, m5B, xB, rB⟩, b1B, q1B, q3B, b4B⟩
  have ECB : ErrC K BT := ⟨OXB, b7B, b8B, b9, b10B⟩
  have CFB : CodeF K l.prog cdaB := ⟨⟨cxB, ceB, vsB, czB, fileB, tfB, b11B, b12B, b13B⟩, b14⟩
  have FXB : FunX K "__init__" "BadTable.__init__" s_BadTable_init feB _ ccB cdaB BT := ⟨⟨ocB, odB, kVB, dcB, pmB, anB, ctB, slB, rfl, lB, cB⟩, ⟨clB, cdB, csB, eB⟩, kB⟩
  have KTB : KitC K BT := ⟨q2B, b17B, b18B, q1B, b25B, p12, p13, b26B⟩
  have GXB := ok_BadTable_init (P := l.prog) (w := w) (base := base) (mg := mg) (CX := L2.CX l.prog w) (Pf := (fun _ => True)) FXB ECB CFB (PySem.W.mg_none_of X G z_super) b15B
  have ERB : Er1 l.prog w K mg base "BadTable" "name" BT feB _ ["self", "name"] (fun _ => True) := ⟨(PySem.W.mg_of X G aB), OXB, b5B, b6B, .all fun us hl => match us, hl with | [_, _], _ => rfl, GXB⟩
  have OXQ : OexC K NO := ⟨⟨nmQ, qnQ, NQ, bsQ, bmQ, snQ, sbQ, abQ, coQ, ddQ, m0Q, m1Q, m2Q, m3Q, m5Q, xQ, rQ⟩, b1Q, q1Q, q3Q, b4Q⟩
  have ECQ : ErrC K NO := ⟨OXQ, b7Q, b8Q, b9, b10Q⟩
  have CFQ : CodeF K l.prog cdaQ := ⟨⟨cxQ, ceQ, vsQ, czQ, fileQ, tfQ, b11Q, b12Q, b13Q⟩, b14⟩
  have FXQ : FunX K "__init__" "NoOperation.__init__" s_NoOperation_init feQ _ ccQ cdaQ NO := ⟨⟨ocQ, odQ, kVQ, dcQ, pmQ, anQ, ctQ, slQ, rfl, lQ, cQ⟩, ⟨clQ, cdQ, csQ, eQ⟩, kQ⟩
  have KTQ : KitC K NO := ⟨q2Q, b17Q, b18Q, q1Q, b25Q, p12, p13, b26Q⟩
  have GXQ := ok_NoOperation_init (P := l.prog) (w := w) (base := base) (mg := mg) (CX := L2.CX l.prog w) (Pf := (fun _ => True)) FXQ ECQ CFQ (PySem.W.mg_none_of X G z_super) b15Q
  have ERQ : Er1 l.prog w K mg base "NoOperation" "name" NO feQ _ ["self", "name"] (fun _ => True) := ⟨(PySem.W.mg_of X G aQ), OXQ, b5Q, b6Q, .all fun us hl => match us, hl with | [_, _], _ => rfl, GXQ⟩
  have TC_ : TbC K mg TC := ⟨(PySem.W.mg_of X G aT), ⟨p1T, p2T, p3T, p4T⟩, n0T, n1T, n2T⟩
  have TE : BtE K mg CE NO BN BT := ⟨(PySem.W.mg_of X G aC), (PySem.W.mg_of X G aQ), (PySem.W.mg_of X G aN), (PySem.W.mg_of X G aB), ⟨b17Q, b18Q, q1Q, b19Q⟩, b15Q, ⟨b17N, b18N, q1N, b19N⟩, b15N, ⟨b17B, b18B, q1B, b19B⟩, b15B, exm_sub q1Q q2Q q3Q sNO, exm_sub q1N q2N q3N sBN, exm_sub q1B q2B q3B sBT, KTQ, KTN, KTB, kit_sub eNOC q2C q3C sNOC, kit_ty b31 b8Q, kit_sub eNOBT q2B q3B sNOBT, kit_sub eBNC q2C q3C sBNC, kit_any2 (kit_sub eBNBT q2B q3B sBNBT) (kit_sub eBNNO q2Q q3Q sBNNO), kit_sub eBTC q2C q3C sBTC, kit_ty b31 b8B, kit_any2 (kit_sub eBTNO q2Q q3Q sBTNO) (kit_sub eBTBN q2N q3N sBTBN), (PySem.W.mg_none_of X G z_isinstance), (PySem.W.mg_none_of X G z_ValueError)⟩
  have F0 := fun_mk (st := s_is_name) l0 c0 k0
  have D0 : Df K mg "is_name" s_is_name ["value"] f0 _ := ⟨F0, PySem.W.mg_of X G a0, F0.binds (ps := ["value"]) fun _ _ _ _ _ _ us hl => match us, hl with | [_], _ => rfl⟩
  have F1 := fun_mk (st := s_is_below) l1 c1 k1
  have D1 : Df K mg "is_below" s_is_below ["value", "bound"] f1 _ := ⟨F1, PySem.W.mg_of X G a1, F1.binds (ps := ["value", "bound"]) fun _ _ _ _ _ _ us hl => match us, hl with | [_, _], _ => rfl⟩
  have F2 := fun_mk (st := s_is_number) l2 c2 k2
  have D2 : Df K mg "is_number" s_is_number ["value"] f2 _ := ⟨F2, PySem.W.mg_of X G a2, F2.binds (ps := ["value"]) fun _ _ _ _ _ _ us hl => match us, hl with | [_], _ => rfl⟩
  have F3 := fun_mk (st := s_is_pair) l3 c3 k3
  have D3 : Df K mg "is_pair" s_is_pair ["pair", "size"] f3 _ := ⟨F3, PySem.W.mg_of X G a3, F3.binds (ps := ["pair", "size"]) fun _ _ _ _ _ _ us hl => match us, hl with | [_, _], _ => rfl⟩
  have F4 := fun_mk (st := s_is_row) l4 c4 k4
  have D4 : Df K mg "is_row" s_is_row ["row"] f4 _ := ⟨F4, PySem.W.mg_of X G a4, F4.binds (ps := ["row"]) fun _ _ _ _ _ _ us hl => match us, hl with | [_], _ => rfl⟩
  have F5 := fun_mk (st := s_check_rows) l5 c5 k5
  have D5 : Df K mg "check_rows" s_check_rows ["rows"] f5 _ := ⟨F5, PySem.W.mg_of X G a5, F5.binds (ps := ["rows"]) fun _ _ _ _ _ _ us hl => match us, hl with | [_], _ => rfl⟩
  have F6 := fun_mk (st := s_law_mixed) l6 c6 k6
  have D6 : Df K mg "_law_mixed" s_law_mixed ["_law_cell", "_law_k"] f6 _ := ⟨F6, PySem.W.mg_of X G a6, F6.binds (ps := ["_law_cell", "_law_k"]) fun _ _ _ _ _ _ us hl => match us, hl with | [_, _], _ => rfl⟩
  have F7 := fun_mk (st := s_law_draws) l7 c7 k7
  have D7 : Df K mg "_law_draws" s_law_draws ["_law_script", "_law_at", "_law_bounds"] f7 _ := ⟨F7, PySem.W.mg_of X G a7, F7.binds (ps := ["_law_script", "_law_at", "_law_bounds"]) fun _ _ _ _ _ _ us hl => match us, hl with | [_, _, _], _ => rfl⟩
  have F8 := fun_mk (st := s_law_names) l8 c8 k8
  have D8 : Df K mg "_law_names" s_law_names ["_law_script", "_law_at", "_law_many"] f8 _ := ⟨F8, PySem.W.mg_of X G a8, F8.binds (ps := ["_law_script", "_law_at", "_law_many"]) fun _ _ _ _ _ _ us hl => match us, hl with | [_, _, _], _ => rfl⟩
  have F9 := fun_mk (st := s_law_rows) l9 c9 k9
  have D9 : Df K mg "_law_rows" s_law_rows ["_law_script", "_law_at", "_law_names_here", "_law_size", "_law_most"] f9 _ := ⟨F9, PySem.W.mg_of X G a9, F9.binds (ps := ["_law_script", "_law_at", "_law_names_here", "_law_size", "_law_most"]) fun _ _ _ _ _ _ us hl => match us, hl with | [_, _, _, _, _], _ => rfl⟩
  have F10 := fun_mk (st := s_law_is_whole) l10 c10 k10
  have D10 : Df K mg "_law_is_whole" s_law_is_whole ["_law_told", "_law_due_here"] f10 _ := ⟨F10, PySem.W.mg_of X G a10, F10.binds (ps := ["_law_told", "_law_due_here"]) fun _ _ _ _ _ _ us hl => match us, hl with | [_, _], _ => rfl⟩
  have F11 := fun_mk (st := s_law_tells) l11 c11 k11
  have D11 : Df K mg "_law_tells" s_law_tells ["_law_table", "_law_names_here", "_law_rows_here", "_law_start"] f11 _ := ⟨F11, PySem.W.mg_of X G a11, F11.binds (ps := ["_law_table", "_law_names_here", "_law_rows_here", "_law_start"]) fun _ _ _ _ _ _ us hl => match us, hl with | [_, _, _, _], _ => rfl⟩
  have F12 := fun_mk (st := s_law_walk) l12 c12 k12
  have D12 : Df K mg "_law_walk" s_law_walk ["_law_rows_here", "_law_start", "_law_calls_here"] f12 _ := ⟨F12, PySem.W.mg_of X G a12, F12.binds (ps := ["_law_rows_here", "_law_start", "_law_calls_here"]) fun _ _ _ _ _ _ us hl => match us, hl with | [_, _, _], _ => rfl⟩
  have F13 := fun_mk (st := s_law_answers) l13 c13 k13
  have D13 : Df K mg "_law_answers" s_law_answers ["_law_table", "_law_rows_here", "_law_start", "_law_calls_here"] f13 _ := ⟨F13, PySem.W.mg_of X G a13, F13.binds (ps := ["_law_table", "_law_rows_here", "_law_start", "_law_calls_here"]) fun _ _ _ _ _ _ us hl => match us, hl with | [_, _, _, _], _ => rfl⟩
  have F14 := fun_mk (st := s_law_unknown) l14 c14 k14
  have D14 : Df K mg "_law_unknown" s_law_unknown ["_law_table", "_law_way", "_law_calls_here", "_law_state", "_law_odd"] f14 _ := ⟨F14, PySem.W.mg_of X G a14, F14.binds (ps := ["_law_table", "_law_way", "_law_calls_here", "_law_state", "_law_odd"]) fun _ _ _ _ _ _ us hl => match us, hl with | [_, _, _, _, _], _ => rfl⟩
  have F15 := fun_mk (st := s_law_bad_state) l15 c15 k15
  have D15 : Df K mg "_law_bad_state" s_law_bad_state ["_law_table", "_law_name", "_law_state"] f15 _ := ⟨F15, PySem.W.mg_of X G a15, F15.binds (ps := ["_law_table", "_law_name", "_law_state"]) fun _ _ _ _ _ _ us hl => match us, hl with | [_, _, _], _ => rfl⟩
  have F16 := fun_mk (st := s_law_none_named) l16 c16 k16
  have D16 : Df K mg "_law_none_named" s_law_none_named ["_law_table"] f16 _ := ⟨F16, PySem.W.mg_of X G a16, F16.binds (ps := ["_law_table"]) fun _ _ _ _ _ _ us hl => match us, hl with | [_], _ => rfl⟩
  have F17 := fun_mk (st := s_law_within) l17 c17 k17
  have D17 : Df K mg "_law_within" s_law_within ["_law_x", "_law_least", "_law_most"] f17 _ := ⟨F17, PySem.W.mg_of X G a17, F17.binds (ps := ["_law_x", "_law_least", "_law_most"]) fun _ _ _ _ _ _ us hl => match us, hl with | [_, _, _], _ => rfl⟩
  have F18 := fun_mk (st := s_law_is_name) l18 c18 k18
  have D18 : Df K mg "_law_is_name" s_law_is_name ["_law_name"] f18 _ := ⟨F18, PySem.W.mg_of X G a18, F18.binds (ps := ["_law_name"]) fun _ _ _ _ _ _ us hl => match us, hl with | [_], _ => rfl⟩
  have F19 := fun_mk (st := s_law_due) l19 c19 k19
  have D19 : Df K mg "_law_due" s_law_due ["_law_items", "_law_start"] f19 _ := ⟨F19, PySem.W.mg_of X G a19, F19.binds (ps := ["_law_items", "_law_start"]) fun _ _ _ _ _ _ us hl => match us, hl with | [_, _], _ => rfl⟩
  have F20 := fun_mk (st := s_law_made) l20 c20 k20
  have D20 : Df K mg "_law_made" s_law_made ["_law_items", "_law_start"] f20 _ := ⟨F20, PySem.W.mg_of X G a20, F20.binds (ps := ["_law_items", "_law_start"]) fun _ _ _ _ _ _ us hl => match us, hl with | [_, _], _ => rfl⟩
  have F21 := fun_mk (st := s_law_spoilt) l21 c21 k21
  have D21 : Df K mg "_law_spoilt" s_law_spoilt ["_law_script", "_law_nine", "_law_names_here", "_law_rows_here", "_law_kind"] f21 _ := ⟨F21, PySem.W.mg_of X G a21, F21.binds (ps := ["_law_script", "_law_nine", "_law_names_here", "_law_rows_here", "_law_kind"]) fun _ _ _ _ _ _ us hl => match us, hl with | [_, _, _, _, _], _ => rfl⟩
  have F22 := fun_mk (st := s_law_refuses) l22 c22 k22
  have D22 : Df K mg "_law_refuses" s_law_refuses ["_law_table", "_law_calls_here", "_law_chosen", "_law_size", "_law_far", "_law_nine"] f22 _ := ⟨F22, PySem.W.mg_of X G a22, F22.binds (ps := ["_law_table", "_law_calls_here", "_law_chosen", "_law_size", "_law_far", "_law_nine"]) fun _ _ _ _ _ _ us hl => match us, hl with | [_, _, _, _, _, _], _ => rfl⟩
  have F23 := fun_mk (st := s_law_calls) l23 c23 k23
  have D23 : Df K mg "_law_calls" s_law_calls ["_law_script", "_law_names_here"] f23 _ := ⟨F23, PySem.W.mg_of X G a23, F23.binds (ps := ["_law_script", "_law_names_here"]) fun _ _ _ _ _ _ us hl => match us, hl with | [_, _], _ => rfl⟩
  have F24 := fun_mk (st := s_law_all_answers) l24 c24 k24
  have D24 : Df K mg "_law_all_answers" s_law_all_answers ["_law_table", "_law_plain", "_law_rows_here", "_law_start", "_law_calls_here"] f24 _ := ⟨F24, PySem.W.mg_of X G a24, F24.binds (ps := ["_law_table", "_law_plain", "_law_rows_here", "_law_start", "_law_calls_here"]) fun _ _ _ _ _ _ us hl => match us, hl with | [_, _, _, _, _], _ => rfl⟩
  have F25 := fun_mk (st := s_law_spoil) l25 c25 k25
  have D25 : Df K mg "_law_spoil" s_law_spoil ["_law_handed", "_law_names_here", "_law_rows_here"] f25 _ := ⟨F25, PySem.W.mg_of X G a25, F25.binds (ps := ["_law_handed", "_law_names_here", "_law_rows_here"]) fun _ _ _ _ _ _ us hl => match us, hl with | [_, _, _], _ => rfl⟩
  have F26 := fun_mk (st := s_law_same_rows) l26 c26 k26
  have D26 : Df K mg "_law_same_rows" s_law_same_rows ["_law_handed", "_law_names_here", "_law_rows_here"] f26 _ := ⟨F26, PySem.W.mg_of X G a26, F26.binds (ps := ["_law_handed", "_law_names_here", "_law_rows_here"]) fun _ _ _ _ _ _ us hl => match us, hl with | [_, _, _], _ => rfl⟩
  have F27 := fun_mk (st := s_law_bend) l27 c27 k27
  have D27 : Df K mg "_law_bend" s_law_bend ["_law_told", "_law_odd"] f27 _ := ⟨F27, PySem.W.mg_of X G a27, F27.binds (ps := ["_law_told", "_law_odd"]) fun _ _ _ _ _ _ us hl => match us, hl with | [_, _], _ => rfl⟩
  have F28 := fun_mk (st := s_law_less) l28 c28 k28
  have D28 : Df K mg "_law_less" s_law_less ["_law_table", "_law_chosen", "_law_names_here", "_law_rows_here", "_law_start"] f28 _ := ⟨F28, PySem.W.mg_of X G a28, F28.binds (ps := ["_law_table", "_law_chosen", "_law_names_here", "_law_rows_here", "_law_start"]) fun _ _ _ _ _ _ us hl => match us, hl with | [_, _, _, _, _], _ => rfl⟩
  have F29 := fun_mk (st := s_law) l29 c29 k29
  have D29 : Df K mg "law" s_law ["_law_script"] fa _ := ⟨F29, PySem.W.mg_of X G a29, F29.binds (ps := ["_law_script"]) fun _ _ _ _ _ _ us hl => match us, hl with | [_], _ => rfl⟩
  have FTI : FunD K "__init__" "Table.__init__" (defArgs s_Table_init) (defBody s_Table_init) (defScope s_Table_init) [V.int 0] [] fTI _ := ⟨⟨ocTI, odTI, .ref TD, kVTI, dcTI, pmTI, anTI, cdTI, ctTI, slTI, rfl, lTI, cTI, .inr ⟨fun z => (nomatch z), TD, _, [.int 0 tkD], ntD, rfl, vD, rfl, .cons ⟨_, rfl⟩ .nil⟩, .inl rfl⟩, kTI⟩
  obtain ⟨ds1, hds1, bI⟩ := FTI.binds1 (ps := ["self", "rows", "first"]) 3 1 (fun z => nomatch z) rfl fun T kV doc pm an cdv ct us its h1 h2 => match us, h1, its, h2 with | [_, _, _], _, [_], _ => ⟨_, rfl, rfl⟩
  cases hds1
  obtain ⟨ds2, hds2, bD⟩ := FTI.binds1 (ps := ["self", "rows", "first"]) 2 0 (fun z => nomatch z) rfl fun T kV doc pm an cdv ct us its h1 h2 => match us, h1, its, h2 with | [_, _], _, [_], _ => ⟨_, rfl, rfl⟩
  have bK := kb_first (ps := ["self", "rows", "first"]) (ks := ["first"]) (n := 2) FTI (fun z => nomatch z) fun T kV doc pm an cdv ct us its ws h1 h2 h3 => match us, h1, its, h2, ws, h3 with | [_, _], _, [_], _, [_], _ => ⟨_, rfl, rfl⟩
  have FTN := fun_mk (st := s_Table_names) lTN cTN kTN
  have bTN : Binds K _ ["self"] [] := FTN.binds (ps := ["self"]) fun _ _ _ _ _ _ us hl => match us, hl with | [_], _ => rfl
  have FTO := fun_mk (st := s_Table_call) lTO cTO kTO
  have bTO : Binds K _ ["self", "name", "state"] [] := FTO.binds (ps := ["self", "name", "state"]) fun _ _ _ _ _ _ us hl => match us, hl with | [_, _, _], _ => rfl
  have FTA := fun_mk (st := s_Table_answers) lTA cTA kTA
  have bTA : Binds K _ ["self", "calls"] [] := FTA.binds (ps := ["self", "calls"]) fun _ _ _ _ _ _ us hl => match us, hl with | [_, _], _ => rfl
  have FTK := fun_mk (st := s_Table_check_name) lTK cTK kTK
  have bTK : Binds K _ ["self", "name"] [] := FTK.binds (ps := ["self", "name"]) fun _ _ _ _ _ _ us hl => match us, hl with | [_, _], _ => rfl
  have FTW := fun_mk (st := s_Table_only) lTW cTW kTW
  have bTW : Binds K _ ["self", "names"] [] := FTW.binds (ps := ["self", "names"]) fun _ _ _ _ _ _ us hl => match us, hl with | [_, _], _ => rfl
  have MT : Mk K TC fTI := ⟨p5T, mTI, hTI, p9T⟩
  have MEN : Meth K TC _ fTN := ⟨mTN, hTN, kTN⟩
  have MEA : Meth K TC _ fTA := ⟨mTA, hTA, kTA⟩
  have MEK : Meth K TC _ fTK := ⟨mTK, hTK, kTK⟩
  have MEW : Meth K TC _ fTW := ⟨mTW, hTW, kTW⟩
  have CO : CallO K TC fTO := ⟨mTO, hTO, iTO⟩
  have G0 := ok_is_name (P := l.prog) (w := w) (base := base) D0 T1
  have G1 := ok_is_below (P := l.prog) (w := w) (base := base) D1 T1
  have G2 := ok_is_number (P := l.prog) (w := w) (base := base) D2 T1 D1 G1
  have G3 := ok_is_pair (P := l.prog) (w := w) (base := base) D3 T1 D2 G2 D1 G1
  have G4 := ok_is_row (P := l.prog) (w := w) (base := base) D4 T1 D3 G3
  have G5 := ok_check_rows (P := l.prog) (w := w) (base := base) D5 T1 ERB D0 G0 D4 G4
  have GTI := ok_Table_init (P := l.prog) (w := w) (base := base) FTI T1 TC_ ERB D5 G5 D1 G1
  have GTN := ok_Table_names (P := l.prog) (w := w) (base := base) FTN T1 TC_
  have GTK := ok_Table_check_name (P := l.prog) (w := w) (base := base) FTK T1 TC_ ERQ D0 G0
  have GTO := ok_Table_call (P := l.prog) (w := w) (base := base) FTO T1 TC_ ERN MEK bTK GTK D1 G1
  have GTA := ok_Table_answers (P := l.prog) (w := w) (base := base) FTA T1 TC_ MEK bTK GTK
  have GTW := ok_Table_only (P := l.prog) (w := w) (base := base) FTW T1 TC_ MEK bTK GTK MT bI GTI
  have G6 := ok_law_mixed (P := l.prog) (w := w) (base := base) D6 TG
  have G7 := ok_law_draws (P := l.prog) (w := w) (base := base) D7 TG D6 G6
  have G8 := ok_law_names (P := l.prog) (w := w) (base := base) D8 TN D7 G7
  have G9 := ok_law_rows (P := l.prog) (w := w) (base := base) D9 TN D7 G7
  have G10 := ok_law_is_whole (P := l.prog) (w := w) (base := base) D10 TN (PySem.W.mg_none_of X G z_isinstance) (PySem.W.mg_none_of X G z_bool)
  have ZW := okz_law_is_whole (P := l.prog) (w := w) (base := base) D10 TW_
  have G11 := ok_law_tells (P := l.prog) (w := w) (base := base) D11 TD_ TC_ D10 G10 MEN bTN GTN CO bTO GTO
  have G12 := ok_law_walk (P := l.prog) (w := w) (base := base) D12 TD_
  have G13 := ok_law_answers (P := l.prog) (w := w) (base := base) D13 TD_ TC_ D10 G10 D12 G12 MEA bTA GTA
  have G14 := ok_law_unknown (P := l.prog) (w := w) (base := base) D14 TE TC_ CO bTO GTO MEA bTA GTA MEW bTW GTW
  have G15 := ok_law_bad_state (P := l.prog) (w := w) (base := base) D15 TE TC_ D10 ZW CO bTO GTO
  have G16 := ok_law_none_named (P := l.prog) (w := w) (base := base) D16 TE TC_ MEW bTW GTW
  have G17 := ok_law_within (P := l.prog) (w := w) (base := base) D17 TW_
  have G18 := ok_law_is_name (P := l.prog) (w := w) (base := base) D18 TI_
  have G19 := ok_law_due (P := l.prog) (w := w) (base := base) D19 TU D18 G18 D17 G17
  have G20 := ok_law_made (P := l.prog) (w := w) (base := base) D20 TE (PySem.W.mg_none_of X G z_list) TC_ MT bI GTI
  have G21 := ok_law_spoilt (P := l.prog) (w := w) (base := base) D21 TS D7 G7
  have G22 := ok_law_refuses (P := l.prog) (w := w) (base := base) D22 TRf D14 G14 D15 G15 D16 G16
  have G23 := ok_law_calls (P := l.prog) (w := w) (base := base) D23 TN D7 G7
  have G24 := ok_law_all_answers (P := l.prog) (w := w) (base := base) D24 D13 G13
  have G25 := ok_law_spoil (P := l.prog) (w := w) (base := base) D25 
  have G26 := ok_law_same_rows (P := l.prog) (w := w) (base := base) D26 TLi
  have G27 := ok_law_bend (P := l.prog) (w := w) (base := base) D27 
  have G28 := ok_law_less (P := l.prog) (w := w) (base := base) D28 TLi TC_ MEW bTW GTW D11 G11
  exact ok_law (P := l.prog) (w := w) (base := base) D29 (NO := NO) TV TC_ MT bI bD hds2 bK GTI MEN bTN GTN D7 G7 D8 G8 D9 G9 D23 G23 D26 G26 D25 G25 D27 G27 D11 G11 D24 G24 D28 G28 D22 G22 D21 G21 D20 G20 D19 G19
theorem walk {l : PySem.W.OpenLaw} {q : Program} {loose : List Str} {XP : (Str → Option Value) → Heap → Prop} {YP : World → Heap → Prop} {d : DefRec} {K : Params → PySem.W.Frag} (hn : l.most = some 63) (hdf : d.params.defaults = [])
    (hY : ∀ (w : World) (h : Heap), YP w h → (K w.params).In h)
    (F : ∀ (w : World) (mg : Str → Option Value) (fa : Addr) (h : Heap), (K w.params).In h → h.Ns mainGlobals mg → mg d.name = some (.ref fa) →
      ∃ fd : FuncData, (∀ (s : Shared) (u : Value), BindsTo s fd ⟨[u], []⟩ [("_law_script", u)]) ∧ ∀ base : Heap, (K w.params).In base → base.Ns mainGlobals mg → FnOk l.prog w (K w.params) mg base CX0 13 fa fd ["_law_script"] (spLaw (K w.params))) :
    PySem.W.WalkO q loose XP YP l.row.toRowW d [] (fun f vs => PySem.call f vs) :=
  L2.walk_of (n := 63) (k := 13) (x := "_law_script") (CX := fun _ => CX0) (sp := fun w => spLaw (K w.params)) hn (by decide) hdf ⟨rfl, by decide, by decide⟩ hY F (fun _ _ a ns hl _ hS => ⟨a, ns, rfl, hS, hl, fun _ => rfl⟩) fun _ _ _ _ _ z => z
end My
open PySem PySem.W PyProof.Rows in
set_option maxRecDepth 100000 in
set_option maxHeartbeats 0 in
theorem PySem.Challenge.cw_coretower_k13_table_tells_holds : PySem.Challenge.rw_coretower_k13_table_tells.Holds := by
  w_on; o_law; k_head; (case hw => w_witness2)
  k_fill
  refine My.walk (l := PySem.Challenge.rw_coretower_k13_table_tells) rfl rfl (fun w h Y => PySem.W.kIn_of Y) ?F
  case F =>
    intro w mg fa h KX G hmg
    refine' My.all_mk KX G hmg ?a0 ?l0 ?c0 ?k0 ?a1 ?l1 ?c1 ?k1 ?a2 ?l2 ?c2 ?k2 ?a3 ?l3 ?c3 ?k3 ?a4 ?l4 ?c4 ?k4 ?a5 ?l5 ?c5 ?k5 ?a6 ?l6 ?c6 ?k6 ?a7 ?l7 ?c7 ?k7 ?a8 ?l8 ?c8 ?k8 ?a9 ?l9 ?c9 ?k9 ?a10 ?l10 ?c10 ?k10 ?a11 ?l11 ?c11 ?k11 ?a12 ?l12 ?c12 ?k12 ?a13 ?l13 ?c13 ?k13 ?a14 ?l14 ?c14 ?k14 ?a15 ?l15 ?c15 ?k15 ?a16 ?l16 ?c16 ?k16 ?a17 ?l17 ?c17 ?k17 ?a18 ?l18 ?c18 ?k18 ?a19 ?l19 ?c19 ?k19 ?a20 ?l20 ?c20 ?k20 ?a21 ?l21 ?c21 ?k21 ?a22 ?l22 ?c22 ?k22 ?a23 ?l23 ?c23 ?k23 ?a24 ?l24 ?c24 ?k24 ?a25 ?l25 ?c25 ?k25 ?a26 ?l26 ?c26 ?k26 ?a27 ?l27 ?c27 ?k27 ?a28 ?l28 ?c28 ?k28 ?a29 ?l29 ?c29 ?k29 ?z_isinstance ?z_str ?z_int ?z_bool ?z_tuple ?z_list ?z_len ?z_all ?z_abs ?z_range ?z_ValueError ?z_super ?gL ?eL ?gX6 ?gX1 ?aN ?xN ?rN ?b1N ?q1N ?q2N ?q3N ?b4N ?b5N ?b6N ?lN ?cN ?kN ?eN ?b7N ?b8N ?b9 ?b14 ?b31 ?p12 ?p13 ?b10N ?b11N ?b12N ?b13N ?b15N ?b17N ?b18N ?b19N ?b25N ?b26N ?aB ?xB ?rB ?b1B ?q1B ?q2B ?q3B ?b4B ?b5B ?b6B ?lB ?cB ?kB ?eB ?b7B ?b8B ?b10B ?b11B ?b12B ?b13B ?b15B ?b17B ?b18B ?b19B ?b25B ?b26B ?aQ ?xQ ?rQ ?b1Q ?q1Q ?q2Q ?q3Q ?b4Q ?b5Q ?b6Q ?lQ ?cQ ?kQ ?eQ ?b7Q ?b8Q ?b10Q ?b11Q ?b12Q ?b13Q ?b15Q ?b17Q ?b18Q ?b19Q ?b25Q ?b26Q ?aC ?q1C ?q2C ?q3C ?aT ?p1T ?p2T ?p3T ?p4T ?n0T ?n1T ?n2T ?p9T ?p5T ?mTI ?hTI ?lTI ?cTI ?kTI ?mTN ?hTN ?lTN ?cTN ?kTN ?mTO ?hTO ?lTO ?cTO ?kTO ?mTA ?hTA ?lTA ?cTA ?kTA ?mTK ?hTK ?lTK ?cTK ?kTK ?mTW ?hTW ?lTW ?cTW ?kTW ?iTO ?vD ?uD ?sNO ?sNOC ?eNOC ?sBN ?sBNC ?eBNC ?sBT ?sBTC ?eBTC ?sNOBT ?eNOBT ?sBNBT ?eBNBT ?sBNNO ?eBNNO ?sBTNO ?eBTNO ?sBTBN ?eBTBN
    (case a0 => k_is)
    (case l0 => k_is)
    (case c0 => k_is)
    (case k0 => k_is)
    (case a1 => k_is)
    (case l1 => k_is)
    (case c1 => k_is)
    (case k1 => k_is)
    (case a2 => k_is)
    (case l2 => k_is)
    (case c2 => k_is)
    (case k2 => k_is)
    (case a3 => k_is)
    (case l3 => k_is)
    (case c3 => k_is)
    (case k3 => k_is)
    (case a4 => k_is)
    (case l4 => k_is)
    (case c4 => k_is)
    (case k4 => k_is)
    (case a5 => k_is)
    (case l5 => k_is)
    (case c5 => k_is)
    (case k5 => k_is)
    (case a6 => k_is)
    (case l6 => k_is)
    (case c6 => k_is)
    (case k6 => k_is)
    (case a7 => k_is)
    (case l7 => k_is)
    (case c7 => k_is)
    (case k7 => k_is)
    (case a8 => k_is)
    (case l8 => k_is)
    (case c8 => k_is)
    (case k8 => k_is)
    (case a9 => k_is)
    (case l9 => k_is)
    (case c9 => k_is)
    (case k9 => k_is)
    (case a10 => k_is)
    (case l10 => k_is)
    (case c10 => k_is)
    (case k10 => k_is)
    (case a11 => k_is)
    (case l11 => k_is)
    (case c11 => k_is)
    (case k11 => k_is)
    (case a12 => k_is)
    (case l12 => k_is)
    (case c12 => k_is)
    (case k12 => k_is)
    (case a13 => k_is)
    (case l13 => k_is)
    (case c13 => k_is)
    (case k13 => k_is)
    (case a14 => k_is)
    (case l14 => k_is)
    (case c14 => k_is)
    (case k14 => k_is)
    (case a15 => k_is)
    (case l15 => k_is)
    (case c15 => k_is)
    (case k15 => k_is)
    (case a16 => k_is)
    (case l16 => k_is)
    (case c16 => k_is)
    (case k16 => k_is)
    (case a17 => k_is)
    (case l17 => k_is)
    (case c17 => k_is)
    (case k17 => k_is)
    (case a18 => k_is)
    (case l18 => k_is)
    (case c18 => k_is)
    (case k18 => k_is)
    (case a19 => k_is)
    (case l19 => k_is)
    (case c19 => k_is)
    (case k19 => k_is)
    (case a20 => k_is)
    (case l20 => k_is)
    (case c20 => k_is)
    (case k20 => k_is)
    (case a21 => k_is)
    (case l21 => k_is)
    (case c21 => k_is)
    (case k21 => k_is)
    (case a22 => k_is)
    (case l22 => k_is)
    (case c22 => k_is)
    (case k22 => k_is)
    (case a23 => k_is)
    (case l23 => k_is)
    (case c23 => k_is)
    (case k23 => k_is)
    (case a24 => k_is)
    (case l24 => k_is)
    (case c24 => k_is)
    (case k24 => k_is)
    (case a25 => k_is)
    (case l25 => k_is)
    (case c25 => k_is)
    (case k25 => k_is)
    (case a26 => k_is)
    (case l26 => k_is)
    (case c26 => k_is)
    (case k26 => k_is)
    (case a27 => k_is)
    (case l27 => k_is)
    (case c27 => k_is)
    (case k27 => k_is)
    (case a28 => k_is)
    (case l28 => k_is)
    (case c28 => k_is)
    (case k28 => k_is)
    (case a29 => k_is)
    (case l29 => k_is)
    (case c29 => k_is)
    (case k29 => k_is)
    (case z_isinstance => k_is)
    (case z_str => k_is)
    (case z_int => k_is)
    (case z_bool => k_is)
    (case z_tuple => k_is)
    (case z_list => k_is)
    (case z_len => k_is)
    (case z_all => k_is)
    (case z_abs => k_is)
    (case z_range => k_is)
    (case z_ValueError => k_is)
    (case z_super => k_is)
    (case gL => k_is)
    (case eL => decide +kernel)
    (case gX6 => k_is)
    (case gX1 => k_is)
    (case aN => k_is)
    (case xN => k_is)
    (case rN => decide +kernel)
    (case b1N => k_is)
    (case q1N => k_is)
    (case q2N => k_is)
    (case q3N => k_is)
    (case b4N => k_is)
    (case b5N => k_is)
    (case b6N => k_is)
    (case lN => k_is)
    (case cN => k_is)
    (case kN => k_is)
    (case eN => k_is)
    (case b7N => ks_is)
    (case b8N => k_is)
    (case b9 => k_is)
    (case b14 => first | rfl | decide +kernel)
    (case b31 => decide +kernel)
    (case p12 => k_is)
    (case p13 => k_is)
    (case b10N => k_is)
    (case b11N => k_is)
    (case b12N => rfl)
    (case b13N => first | rfl | decide +kernel)
    (case b15N => k_is)
    (case b17N => k_is)
    (case b18N => k_is)
    (case b19N => k_is)
    (case b25N => k_is)
    (case b26N => k_is)
    (case aB => k_is)
    (case xB => k_is)
    (case rB => decide +kernel)
    (case b1B => k_is)
    (case q1B => k_is)
    (case q2B => k_is)
    (case q3B => k_is)
    (case b4B => k_is)
    (case b5B => k_is)
    (case b6B => k_is)
    (case lB => k_is)
    (case cB => k_is)
    (case kB => k_is)
    (case eB => k_is)
    (case b7B => ks_is)
    (case b8B => k_is)
    (case b10B => k_is)
    (case b11B => k_is)
    (case b12B => rfl)
    (case b13B => first | rfl | decide +kernel)
    (case b15B => k_is)
    (case b17B => k_is)
    (case b18B => k_is)
    (case b19B => k_is)
    (case b25B => k_is)
    (case b26B => k_is)
    (case aQ => k_is)
    (case xQ => k_is)
    (case rQ => decide +kernel)
    (case b1Q => k_is)
    (case q1Q => k_is)
    (case q2Q => k_is)
    (case q3Q => k_is)
    (case b4Q => k_is)
    (case b5Q => k_is)
    (case b6Q => k_is)
    (case lQ => k_is)
    (case cQ => k_is)
    (case kQ => k_is)
    (case eQ => k_is)
    (case b7Q => ks_is)
    (case b8Q => k_is)
    (case b10Q => k_is)
    (case b11Q => k_is)
    (case b12Q => rfl)
    (case b13Q => first | rfl | decide +kernel)
    (case b15Q => k_is)
    (case b17Q => k_is)
    (case b18Q => k_is)
    (case b19Q => k_is)
    (case b25Q => k_is)
    (case b26Q => k_is)
    (case aC => k_is)
    (case q1C => k_is)
    (case q2C => k_is)
    (case q3C => k_is)
    (case aT => k_is)
    (case p1T => k_is)
    (case p2T => k_is)
    (case p3T => k_is)
    (case p4T => k_is)
    (case n0T => k_is)
    (case n1T => k_is)
    (case n2T => k_is)
    (case p9T => k_is)
    (case p5T => k_is)
    (case mTI => k_is)
    (case hTI => k_is)
    (case lTI => k_is)
    (case cTI => k_is)
    (case kTI => k_is)
    (case mTN => k_is)
    (case hTN => k_is)
    (case lTN => k_is)
    (case cTN => k_is)
    (case kTN => k_is)
    (case mTO => k_is)
    (case hTO => k_is)
    (case lTO => k_is)
    (case cTO => k_is)
    (case kTO => k_is)
    (case mTA => k_is)
    (case hTA => k_is)
    (case lTA => k_is)
    (case cTA => k_is)
    (case kTA => k_is)
    (case mTK => k_is)
    (case hTK => k_is)
    (case lTK => k_is)
    (case cTK => k_is)
    (case kTK => k_is)
    (case mTW => k_is)
    (case hTW => k_is)
    (case lTW => k_is)
    (case cTW => k_is)
    (case kTW => k_is)
    (case iTO => k_is)
    (case vD => k_is)
    (case uD => exact rfl)
    (case sNO => first | rfl | k_is)
    (case sNOC => first | rfl | k_is)
    (case eNOC => decide +kernel)
    (case sBN => first | rfl | k_is)
    (case sBNC => first | rfl | k_is)
    (case eBNC => decide +kernel)
    (case sBT => first | rfl | k_is)
    (case sBTC => first | rfl | k_is)
    (case eBTC => decide +kernel)
    (case sNOBT => first | rfl | k_is)
    (case eNOBT => decide +kernel)
    (case sBNBT => first | rfl | k_is)
    (case eBNBT => decide +kernel)
    (case sBNNO => first | rfl | k_is)
    (case eBNNO => decide +kernel)
    (case sBTNO => first | rfl | k_is)
    (case eBTNO => decide +kernel)
    (case sBTBN => first | rfl | k_is)
    (case eBTBN => decide +kernel)

