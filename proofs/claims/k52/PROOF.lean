import PyProof.Rows.All
import Wide.All
import OpenK.AllK
import Wide.FinOn
import HandS.ForMost
import HandS.Style
import HandS.IsInst
import HandS.More
import HandS.Evl
import HandS.Zip
import HandS.Walk
import HandS.SetFor
import HandS.Defaults
import HandS.ForExc
import HandS.CallSlots
import HandS.Comp
import KE.GoesComp2
import KE.KExcSuper
import HandS.ExcInit
import HandS.Nested
import HandS.ExcField
import HandS.ExcIs
import HandS.TryMany
import HandS.TryOnly
import HandS.ExcOwn
import HandS.WordsExc
import KE.KExcIs
import HandS.SlotsOwn
import HandS.OwnIter
import HandS.IterNext
import HandS.ClsMeth
import HandS.Deep
import HandS.TupLe
import HandS.SortRule
import PyProof.P3Eq
import KE.SortCalls
import HandS.TupAny
import KE.KDictKeyed
import KE.KeyNested
import KE.KDictDisplayH
import HandS.Exc
import HandS.Star
import HandS.FStr
import PyProof.Rows.RegStrFacts
import HandS.Conv
import HandS.Text
import PySem.Challenge.RW_coretower_k52_whole_parting_row
import KE.RegKSuper
set_option Elab.async false
set_option linter.all false
set_option maxRecDepth 100000
set_option maxHeartbeats 4000000
/-! ### small things over the layer: frames, loops, tests -/
namespace My
open PySem L2
section
variable {P : Program} {w : World} {K : PySem.W.Frag} {mg : Str → Option Value} {base : Heap}
/-- a def of the text, where it stands -/
structure Df (K : PySem.W.Frag) (mg : Str → Option Value) (x : Str) (st : Stmt) (ps : List Str) (f : Addr) (fd : FuncData) : Prop where
  F : Fun K x x st f fd
  g : mg x = some (.ref f)
  b : Binds K fd ps []
theorem cxK {CX : CXT} {N : List Str} {q : Str} {sc : Scope} {f : Addr} {cdv : Value} {A : Around} {outer : List Env} {s : Shared} {H : Hp} {E : XK} : (cxOf CX P w K mg base N q sc f cdv A outer s H E).K = K := rfl
theorem cxnK {CX : CXT} {N : List Str} {q : Str} {sc : Scope} {f : Addr} {cdv : Value} {A : Around} {outer : List Env} {s : Shared} {H : Hp} {E : XK} : (cxOf CX P w K mg base N q sc f cdv A outer s H E).nox.K = K := rfl
end
/-! ### frames -/
/-- what stood outside of S stands as it did -/
def Kp (S : List Addr) (H H' : Hp) : Prop := ∀ b o, b ∉ S → H b = some o → H' b = some o
theorem Kp.refl (S : List Addr) (H : Hp) : Kp S H H := fun _ _ _ h => h
theorem Kp.trans {S : List Addr} {H H1 H2 : Hp} (a : Kp S H H1) (b : Kp S H1 H2) : Kp S H H2 := fun c o hc h => b c o hc (a c o hc h)
theorem Kp.mono {S T : List Addr} {H H' : Hp} (a : Kp S H H') (h : ∀ x ∈ S, x ∈ T) : Kp T H H' := fun c o hc e => a c o (fun z => hc (h c z)) e
theorem Kp.of0 {T : List Addr} {H H' : Hp} (a : Kp [] H H') : Kp T H H' := a.mono fun x hx => nomatch hx
theorem Kp.new {S : List Addr} {H : Hp} {p : Addr} {o : HO} (h : H p = none) : Kp S H (upd H p o) := fun a u _ e => by
  rw [upd_ne (ne_of_none e h)]
  exact e
/-- a write to something that was not there at the beginning -/
theorem Kp.wr {S : List Addr} {H H' : Hp} {p : Addr} {o : HO} (a : Kp S H H') (h : H p = none) : Kp S H (upd H' p o) := fun b u hb e => by
  rw [upd_ne (ne_of_none e h)]
  exact a b u hb e
theorem Kp.put {S : List Addr} {H H' : Hp} {p : Addr} {o : HO} (a : Kp S H H') (h : p ∈ S) : Kp S H (upd H' p o) := fun b u hb e => by
  rw [upd_ne (fun z => hb (by rw [z]; exact h))]
  exact a b u hb e
theorem Kp.ls {S : List Addr} {K : PySem.W.Frag} {H H' : Hp} {a : Addr} {xs : List V} (k : Kp S H H') (ha : a ∉ S) (h : SqL K H a xs) : SqL K H' a xs := by
  rcases h with (h | ⟨o, h⟩) | h
  · exact .inl (.inl (k _ _ ha h))
  · exact .inl (.inr ⟨o, k _ _ ha h⟩)
  · exact .inr h
theorem Kp.tp {S : List Addr} {K : PySem.W.Frag} {H H' : Hp} {a : Addr} {xs : List V} (k : Kp S H H') (ha : a ∉ S) (h : SqT K H a xs) : SqT K H' a xs := by
  rcases h with (h | ⟨o, h⟩) | h
  · exact .inl (.inl (k _ _ ha h))
  · exact .inl (.inr ⟨o, k _ _ ha h⟩)
  · exact .inr h
theorem Kp.free {S : List Addr} {H H' : Hp} {p : Addr} (k : Kp S H H') (hp : H' p = none) (hs : ∀ a ∈ S, ∃ o, H' a = some o) : H p = none := by
  cases e : H p with
  | none => rfl
  | some o =>
    by_cases h : p ∈ S
    · obtain ⟨u, hu⟩ := hs p h
      rw [hp] at hu; cases hu
    · rw [k p o h e] at hp; cases hp
theorem Kp.free0 {H H' : Hp} {p : Addr} (k : Kp [] H H') (hp : H' p = none) : H p = none := k.free hp fun a h => nomatch h
theorem not1 {a b : Addr} (h : b ≠ a) : b ∉ [a] := fun z => h (List.mem_singleton.mp z)
theorem not0 {b : Addr} : b ∉ ([] : List Addr) := fun z => nomatch z
theorem sq_l {K : PySem.W.Frag} {H : Hp} {a : Addr} {xs : List V} (h : H a = some (.lst xs)) : SqL K H a xs := .inl (.inl h)
theorem sq_t {K : PySem.W.Frag} {H : Hp} {a : Addr} {xs : List V} (h : H a = some (.tup xs)) : SqT K H a xs := .inl (.inl h)
theorem small {n : Nat} (h : n ≤ 100000) : n ≤ sizeLine := Nat.le_trans h (by decide)
theorem smallL {n : Nat} (h : n ≤ 100000) : n < sizeLine := Nat.lt_of_le_of_lt h (by decide)
theorem ne_kind {H : Hp} {a b : Addr} {o u : HO} (h : H a = some o) (h' : H b = some u) (d : o ≠ u) : a ≠ b := ne_of h h' d
/-! ### subscripts -/
theorem atI_of {α : Type} {xs : List α} {i : Int} {v : α} (h0 : 0 ≤ i) (h : xs[i.toNat]? = some v) : atI xs i = some v := by
  have e := atI_nat h
  rwa [Int.toNat_of_nonneg h0] at e
theorem ixN_of {n : Nat} {i : Int} (h0 : 0 ≤ i) (h : i < n) : ixN n i = some i.toNat := by
  unfold ixN
  rw [if_pos h0, if_pos h]
theorem atI_ex {α : Type} {xs : List α} {i : Int} (h0 : 0 ≤ i) (h : i < xs.length) : ∃ v, v ∈ xs ∧ atI xs i = some v := by
  have hl : i.toNat < xs.length := by omega
  exact ⟨xs[i.toNat], List.getElem_mem hl, atI_of h0 (List.getElem?_eq_getElem hl)⟩
/-! ### isinstance -/
section
variable {K : PySem.W.Frag} {H : Hp} {Q : VK}
theorem isi_mk {x : V} {n m : String} {b : Bool} (h : TyOf K H x (.type n)) (k : kitB n m = some b) (q : Q (.bl b) H) : rIsi K [x, .ty m] H Q := ⟨x, _, _, _, b, rfl, .ty m, .base h, kit_ty k, q⟩
theorem isi_int_str {i : Int} (q : Q (.bl false) H) : rIsi K [.int i, .ty "str"] H Q := isi_mk (.int i) (by decide +kernel) q
theorem isi_str_str {i : Str} (q : Q (.bl true) H) : rIsi K [.str i, .ty "str"] H Q := isi_mk (.str i) (by decide +kernel) q
theorem isi_int_int {i : Int} (q : Q (.bl true) H) : rIsi K [.int i, .ty "int"] H Q := isi_mk (.int i) (by decide +kernel) q
theorem isi_int_bool {i : Int} (q : Q (.bl false) H) : rIsi K [.int i, .ty "bool"] H Q := isi_mk (.int i) (by decide +kernel) q
theorem isi_bl_bool {i : Bool} (q : Q (.bl true) H) : rIsi K [.bl i, .ty "bool"] H Q := isi_mk (.bl i) (by decide +kernel) q
end
theorem sc_ii {i j : Int} : scal (.int i) (.int j) = true := rfl
theorem sc_ss {i j : Str} : scal (.str i) (.str j) = true := rfl
theorem sc_bb {i j : Bool} : scal (.bl i) (.bl j) = true := rfl
theorem sc_ni {j : Int} : scal .non (.int j) = true := rfl
theorem sc_in {j : Int} : scal (.int j) .non = true := rfl
theorem sc_is {i : Int} {j : Str} : scal (.int i) (.str j) = true := rfl
theorem sc_si {i : Int} {j : Str} : scal (.str j) (.int i) = true := rfl
theorem sc_nn : scal .non .non = true := rfl
/-! ### loops -/
section
variable {K : PySem.W.Frag} {g : TG} {tb : TS} {D : Ends} {σ : St} {H : Hp}
theorem forL {a : Addr} {xs : List V} {i : Nat} (Pv : Nat → L2.St → Hp → Prop) (hσ : σ[i]? = some (some (.ref a))) (hS : SqL K H a xs) (h0 : Pv 0 σ H) (hl : ∀ j σ H, j ≤ xs.length → Pv j σ H → SqL K H a xs)
    (hs : ∀ j x σ H, xs[j]? = some x → Pv j σ H → g x σ H fun σ2 H2 => tb { D with nx := Pv (j + 1), ct := Pv (j + 1), bk := D.nx } σ2 H2) (hd : ∀ σ H, Pv xs.length σ H → D.nx σ H) : tFor (iList K (tVar i)) g tb D σ H :=
  ⟨_, hσ, a, rfl, ⟨xs, hS⟩, for_list Pv h0 hl hs hd⟩
theorem forT {a : Addr} {xs : List V} {i : Nat} (Pv : Nat → L2.St → Hp → Prop) (hσ : σ[i]? = some (some (.ref a))) (hS : SqT K H a xs) (h0 : Pv 0 σ H) (hl : ∀ j σ H, j ≤ xs.length → Pv j σ H → SqT K H a xs)
    (hs : ∀ j x σ H, xs[j]? = some x → Pv j σ H → g x σ H fun σ2 H2 => tb { D with nx := Pv (j + 1), ct := Pv (j + 1), bk := D.nx } σ2 H2) (hd : ∀ σ H, Pv xs.length σ H → D.nx σ H) : tFor (iTup K (tVar i)) g tb D σ H :=
  ⟨_, hσ, a, rfl, ⟨xs, hS⟩, for_tup Pv h0 hl hs hd⟩
/-- behind the reckoning of the bound: range(m) -/
theorem forR {ta : TA} {Qx : Hp → Int → Prop} (h : ta σ H fun vs H1 => ∃ m : Int, vs = [.int m] ∧ -(2 ^ 62) ≤ m ∧ m < 2 ^ 62 ∧ ∃ Pv : Nat → L2.St → Hp → Prop, Pv 0 σ H1 ∧
    (∀ j σ H, j < m.toNat → Pv j σ H → g (.int (0 + j)) σ H fun σ2 H2 => tb { D with nx := Pv (j + 1), ct := Pv (j + 1), bk := D.nx } σ2 H2) ∧ (∀ σ H, Pv m.toNat σ H → D.nx σ H))
    (mono : ∀ Q Q' : List V → Hp → Prop, (∀ vs H, Q vs H → Q' vs H) → ta σ H Q → ta σ H Q') : tFor (iRng1 ta) g tb D σ H := by
  refine mono _ _ ?_ h
  rintro vs H1 ⟨m, e, h1, h2, Pv, a, b, c⟩
  exact ⟨m, e, h1, h2, for_range Pv a b c⟩
end
/-! ### dicts -/
section
variable {κ : Type} [DecidableEq κ]
theorem keys_putK (kvs : List (κ × V)) (k : κ) (v : V) (h : (kvs.map (·.1)).Nodup) : ((putK kvs k v).map (·.1)).Nodup := by
  cases e : valV kvs k with
  | none => exact nd_putK v h e
  | some y =>
    have ha : (kvs.any fun kv => decide (kv.1 = k)) = true := by
      unfold valV at e
      cases q : kvs.find? fun kv => decide (kv.1 = k) with
      | none => rw [q] at e; cases e
      | some p => exact List.any_eq_true.mpr ⟨p, List.mem_of_find?_eq_some q, by simpa using List.find?_some q⟩
    unfold putK
    rw [if_pos ha, List.map_map]
    have e2 : ((fun kv : κ × V => kv.1) ∘ fun kv : κ × V => if kv.1 = k then (kv.1, v) else kv) = fun kv => kv.1 := by
      funext p
      show (if p.1 = k then (p.1, v) else p).1 = p.1
      split <;> rfl
    rw [e2]
    exact h
theorem mem_putK {kvs : List (κ × V)} {k : κ} {v : V} {p : κ × V} (h : p ∈ putK kvs k v) : p ∈ kvs ∨ p = (k, v) := by
  unfold putK at h
  split at h
  · obtain ⟨q, hq, e⟩ := List.mem_map.mp h
    split at e
    · rename_i hk
      exact .inr (by rw [← e, hk])
    · exact .inl (by rw [← e]; exact hq)
  · rcases List.mem_append.mp h with h | h
    · exact .inl h
    · exact .inr (List.mem_singleton.mp h)
theorem valV_mem {kvs : List (κ × V)} {k : κ} {v : V} (h : (kvs.map (·.1)).Nodup) (hm : (k, v) ∈ kvs) : valV kvs k = some v := by
  induction kvs with
  | nil => nomatch hm
  | cons p r ih =>
    rw [List.map_cons, List.nodup_cons] at h
    by_cases e : p.1 = k
    · rw [valV_pos e]
      rcases List.mem_cons.mp hm with z | z
      · rw [← z]
      · exact absurd (List.mem_map.mpr ⟨_, z, rfl⟩) (by rw [← e]; exact h.1)
    · rw [valV_neg e]
      rcases List.mem_cons.mp hm with z | z
      · exact absurd (by rw [← z]) e
      · exact ih h.2 z
end
end My

set_option Elab.async false
set_option linter.all false
set_option maxRecDepth 100000
set_option maxHeartbeats 4000000
namespace My
open PySem L2
/-! ### data that stands in tracked tuples and lists -/
mutual
inductive Dq (H : Hp) : V → PyData → Prop
  | non : Dq H .non .none
  | bl (b : Bool) : Dq H (.bl b) (.bool b)
  | int (i : Int) : Dq H (.int i) (.int i)
  | str (x : Str) : Dq H (.str x) (.str x)
  | lst {a : Addr} {xs : List V} {ds : List PyData} : H a = some (.lst xs) → DqAll H xs ds → Dq H (.ref a) (.list ds)
  | tup {a : Addr} {xs : List V} {ds : List PyData} : H a = some (.tup xs) → DqAll H xs ds → Dq H (.ref a) (.tuple ds)
inductive DqAll (H : Hp) : List V → List PyData → Prop
  | nil : DqAll H [] []
  | cons {v : V} {vs : List V} {d : PyData} {ds : List PyData} : Dq H v d → DqAll H vs ds → DqAll H (v :: vs) (d :: ds)
end
mutual
theorem Dq.kp {H H' : Hp} (k : Kp [] H H') : ∀ {d : PyData} {v : V}, Dq H v d → Dq H' v d
  | _, _, .non => .non
  | _, _, .bl b => .bl b
  | _, _, .int i => .int i
  | _, _, .str x => .str x
  | _, _, .lst e h => .lst (k _ _ not0 e) (DqAll.kp k h)
  | _, _, .tup e h => .tup (k _ _ not0 e) (DqAll.kp k h)
theorem DqAll.kp {H H' : Hp} (k : Kp [] H H') : ∀ {ds : List PyData} {vs : List V}, DqAll H vs ds → DqAll H' vs ds
  | _, _, .nil => .nil
  | _, _, .cons h t => .cons (Dq.kp k h) (DqAll.kp k t)
end
mutual
theorem Dq.dp {K : PySem.W.Frag} {H : Hp} : ∀ {d : PyData} {v : V}, Dq H v d → Dp K H v d
  | _, _, .non => .non
  | _, _, .bl b => .bl b
  | _, _, .int i => .int i
  | _, _, .str x => .str x
  | _, _, .lst e h => .lst (sq_l e) (DqAll.dp h)
  | _, _, .tup e h => .tup (sq_t e) (DqAll.dp h)
theorem DqAll.dp {K : PySem.W.Frag} {H : Hp} : ∀ {ds : List PyData} {vs : List V}, DqAll H vs ds → DpAll K H vs ds
  | _, _, .nil => .nil
  | _, _, .cons h t => .cons (Dq.dp h) (DqAll.dp t)
end
theorem DqAll.len {H : Hp} : ∀ {ds : List PyData} {vs : List V}, DqAll H vs ds → vs.length = ds.length
  | _, _, .nil => rfl
  | _, _, .cons h t => by rw [List.length_cons, List.length_cons, t.len]
theorem DqAll.get {H : Hp} : ∀ {ds : List PyData} {vs : List V}, DqAll H vs ds → ∀ {i : Nat} {v : V}, vs[i]? = some v → ∃ d, ds[i]? = some d ∧ Dq H v d
  | _, _, .nil, _, _, e => nomatch e
  | _, _, .cons h t, 0, _, e => by cases e; exact ⟨_, rfl, h⟩
  | _, _, .cons h t, i + 1, _, e => t.get (i := i) e
/-- its class -/
def tyD : PyData → String
  | .none => "NoneType"
  | .bool _ => "bool"
  | .int _ => "int"
  | .str _ => "str"
  | .list _ => "list"
  | .tuple _ => "tuple"
  | _ => "object"
theorem Dq.ty {K : PySem.W.Frag} {H : Hp} {v : V} {d : PyData} (h : Dq H v d) : TyOf K H v (.type (tyD d)) := by
  cases h with
  | non => exact .non
  | bl b => exact .bl b
  | int i => exact .int i
  | str x => exact .str x
  | lst e h => exact .lst e
  | tup e h => exact .tup e
def six (d : PyData) : Prop := match d with
  | .none | .bool _ | .int _ | .str _ | .list _ | .tuple _ => True
  | _ => False
theorem Dq.six {H : Hp} {v : V} {d : PyData} (h : Dq H v d) : six d := by
  cases h <;> exact True.intro
def isStrD : PyData → Bool | .str _ => true | _ => false
def isTupD : PyData → Bool | .tuple _ => true | _ => false
def isLstD : PyData → Bool | .list _ => true | _ => false
def isIntD : PyData → Bool | .int _ | .bool _ => true | _ => false
def isBoolD : PyData → Bool | .bool _ => true | _ => false
section
variable {K : PySem.W.Frag} {H : Hp} {Q : VK} {v : V} {d : PyData}
theorem isi_D (h : Dq H v d) {m : String} {b : Bool} (k : kitB (tyD d) m = some b) (q : Q (.bl b) H) : rIsi K [v, .ty m] H Q := isi_mk h.ty k q
theorem isi_Dstr (h : Dq H v d) (q : Q (.bl (isStrD d)) H) : rIsi K [v, .ty "str"] H Q := isi_D h (by cases h <;> simp only [tyD, isStrD, isTupD, isLstD, isIntD, isBoolD] <;> decide +kernel) q
theorem isi_Dtup (h : Dq H v d) (q : Q (.bl (isTupD d)) H) : rIsi K [v, .ty "tuple"] H Q := isi_D h (by cases h <;> simp only [tyD, isStrD, isTupD, isLstD, isIntD, isBoolD] <;> decide +kernel) q
theorem isi_Dlst (h : Dq H v d) (q : Q (.bl (isLstD d)) H) : rIsi K [v, .ty "list"] H Q := isi_D h (by cases h <;> simp only [tyD, isStrD, isTupD, isLstD, isIntD, isBoolD] <;> decide +kernel) q
theorem isi_Dint (h : Dq H v d) (q : Q (.bl (isIntD d)) H) : rIsi K [v, .ty "int"] H Q := isi_D h (by cases h <;> simp only [tyD, isStrD, isTupD, isLstD, isIntD, isBoolD] <;> decide +kernel) q
theorem isi_Dbool (h : Dq H v d) (q : Q (.bl (isBoolD d)) H) : rIsi K [v, .ty "bool"] H Q := isi_D h (by cases h <;> simp only [tyD, isStrD, isTupD, isLstD, isIntD, isBoolD] <;> decide +kernel) q
end
/-! ### xs.remove(text) -/
def eqs (z : Str) (v : Value) : Bool := match v with
  | .str y _ => y == z
  | _ => false
theorem str_beq' (w z : Str) : (w == z) = (w.cps.toList == z.cps.toList) := by
  rw [Bool.eq_iff_iff, beq_iff_eq, beq_iff_eq]
  constructor
  · rintro rfl; rfl
  · intro h
    obtain ⟨a⟩ := w
    obtain ⟨b⟩ := z
    obtain ⟨a⟩ := a
    obtain ⟨b⟩ := b
    have h' : a = b := h
    rw [h']
def rRemS : V → List V → Hp → VK → Prop := fun x xs H Q => ∃ (l : Addr) (zs : List Str) (z : Str) (j : Nat), x = .ref l ∧ xs = [.str z] ∧ H l = some (.lst (zs.map V.str)) ∧ zs[j]? = some z ∧ (∀ m : Nat, m < j → zs[m]? ≠ some z) ∧ Q .non (upd H l (.lst ((zs.eraseIdx j).map V.str)))
theorem vals_str : ∀ {zs : List Str} {us : List Value}, Vals (zs.map V.str) us → ∀ {i : Nat} {u : Value}, us[i]? = some u → ∃ y t, u = .str y t ∧ zs[i]? = some y
  | [], _, r, _, _, e => by cases r; cases e
  | z :: zs, us, r, i, u, e => by
    rw [List.map_cons] at r
    cases r with
    | cons r0 rt =>
      match i, e with
      | 0, e =>
        cases e
        obtain ⟨t, rfl⟩ := r0
        exact ⟨z, t, rfl, rfl⟩
      | i + 1, e => exact vals_str rt (i := i) e
theorem erase_mapS : ∀ (l : List Str) (j : Nat), (l.map V.str).eraseIdx j = (l.eraseIdx j).map V.str
  | [], j => by simp
  | _ :: _, 0 => by simp
  | _ :: r, j + 1 => by simp [erase_mapS r j]
theorem eqs_ok (w z : Str) (tw t : Tok) : MeetsSeq.EqGives (.str w tw) (.str z t) (eqs z (.str w tw)) := by
  have e : eqs z (.str w tw) = (w.cps.toList == z.cps.toList) := (str_beq' w z)
  rw [e]
  exact SeqRoads2.EqGives.str w z tw t
theorem mt_removeS {X : Cx} : MtM X "list.remove" rRemS := by
  intro pins s σ H x xs v us Q I rx rxs h
  obtain ⟨l, zs, z, j, rfl, rfl, hH, hj, hno, q⟩ := h
  cases rx
  obtain ⟨u, rfl, ru⟩ := rxs.one
  obtain ⟨t, rfl⟩ := ru
  obtain ⟨hz, its, n, r, hl, e⟩ := I.lstM hH
  rw [List.length_map] at hl hz
  have hjn : j < zs.length := (List.getElem?_eq_some_iff.mp hj).1
  have hjl : j < its.toArray.size := by rw [List.size_toArray]; omega
  have each : ∀ y, y ∈ its.toArray → MeetsSeq.EqGives y (.str z t) (eqs z y) := fun y hy => by
    obtain ⟨i, hi, e1⟩ := List.mem_iff_getElem.mp (show y ∈ its by simpa using hy)
    obtain ⟨w, tw, rfl, _⟩ := vals_str r (i := i) (by rw [List.getElem?_eq_getElem hi, e1])
    exact eqs_ok w z tw t
  have at_ : ∀ m (hm : m < its.toArray.size), ∃ t', its.toArray[m] = .str (zs[m]'(by rw [List.size_toArray] at hm; omega)) t' := fun m hm => by
    have hm' : m < its.length := by simpa using hm
    obtain ⟨w, tw, ew, ez⟩ := vals_str r (i := m) (List.getElem?_eq_getElem hm')
    have hmz : m < zs.length := by omega
    rw [List.getElem?_eq_getElem hmz] at ez
    exact ⟨tw, by rw [Option.some.inj ez]; simpa using ew⟩
  refine call_meets PySem.F.slot_list_remove ⟨_, e, rfl⟩ PySem.F.entry_list_remove (PySem.F.args_list_remove_2 _ _) (MeetsSeq.list_remove l its.toArray n (.str z t) (eqs z) each j hjl ?_ ?_ (by rw [List.size_toArray]; omega)) ⟨e, ?_⟩
  · obtain ⟨t', et⟩ := at_ j hjl
    rw [List.getElem?_eq_getElem hjn] at hj
    rw [et, Option.some.inj hj]
    exact beq_self_eq_true z
  · intro m hm hmj
    obtain ⟨t', et⟩ := at_ m hm
    rw [et]
    refine beq_eq_false_iff_ne.mpr fun e2 => hno m hmj ?_
    rw [← e2]
    exact List.getElem?_eq_getElem _
  · have rr := r.eraseIdx j
    rw [erase_mapS] at rr
    refine ⟨.non, _, I.lset (its' := its.eraseIdx j) (t' := s.toks) hH e ?_ rr ?_, rfl, q⟩
    · show its.toArray.eraseIdxIfInBounds j = (its.eraseIdx j).toArray
      rw [List.eraseIdxIfInBounds_toArray]
    · have := List.length_eraseIdx_le zs j
      rw [List.length_map]
      omega
/-! ### repr of data, nothing being shown -/
def rReprD (K : PySem.W.Frag) : List V → Hp → VK → Prop := fun xs H Q => ∃ (a : Addr) (d : PyData), xs = [.ref a] ∧ Dp K H (.ref a) d ∧ d.showable = true ∧ d.hasDict = false ∧ d.depth ≤ 60 ∧ d.shown.length ≤ sizeLine ∧ Q (.str d.shown) H
theorem call_reprD {X : Cx} (gd : X.A.guards = some [] ∧ X.A.units + 64 < cLine) : CallR X (.builtin "repr") (rReprD X.K) := by
  intro pins s σ H xs us Q I r h
  obtain ⟨a, d, rfl, hd, hs, hn, hp, hz, q⟩ := h
  obtain ⟨u, rfl, ru⟩ := vals1 r
  obtain ⟨as, rd⟩ := Dp.reads I d (.ref a) u hd ru
  cases (show u = Value.ref a from ru)
  refine repr_of_reads' rd hs (PyData.noDict_hsm hn) gd.1 (by omega) (fun _ _ e => e) (fun h' t tk hk => ⟨.str _, H, I.kept (t' := tk) hk, ⟨_, rfl⟩, q⟩) hz
/-! ### an own class made where what is raised is wished for at the slots -/
def tMakeS (C : Addr) (sp : Sp) (dvs : List V) (E : L2.St → XK) (t : TA) : TE := fun σ H Q => t σ H fun vs H1 => ∀ o d, H1 o = none → H1 d = none → d ≠ o → sp (.ref o :: (vs ++ dvs)) (upd (upd H1 d (.own o)) o (.ins C d [])) (fun v H2 => v = .non ∧ Q (.ref o) H2) (E σ)
section
variable {X : Cx} {CX : CXT} {k : Nat} {f C : Addr} {fd : FuncData} {ps : List Str} {sp : Sp} {dvs : List V} {ds : List Value} {E : L2.St → XK} {x : Str} {p pos : Pos} {e : Expr} {es : List Expr} {t : TA}
theorem pe_makeS (M : Mk X.K C f) (F : FnOk X.prog X.w X.K X.mg X.base CX k f fd ps sp) (hr : Room (k + 1) X.A) (hg : Gl X x) (hm : X.mg x = some (.ref C)) (hb : Binds X.K fd ps ds) (hd : Vals dvs ds) (hx : ∀ σ, PassesAt CX X σ (E σ)) (ha : PA X (e :: es) t)
    (hdb : (x == ("__debug__" : Str)) = false := by decide) (he : starEach (e :: es) X.env = (false, eval e X.env) :: starEach es X.env := by rfl) (hpl : (backTo pos (starEach es X.env)).any (·.1) = false := by rfl) :
    PE X (.Call (.Name x p) (e :: es) [] pos) (tMakeS C sp dvs E t) := by
  refine ⟨fun pins s σ H Q I h => wpAny_Call_Name_kw (ld_glob I hg hm ?_ hdb)⟩
  refine PySem.W.callWith_K (h₀ := X.base) I.ok.mod.kin M.kp (thn (ha.run pos pins s σ H _ I h) fun us s1 ⟨vs, H1, I1, r, q⟩ => ⟨I1.kIn, ?_⟩) he hpl
  have g0 : H1 (s1.heap.objs.size + 1) = none := I1.hok.fresh (Nat.le_succ _)
  have g1 : H1 s1.heap.objs.size = none := I1.hok.fresh (Nat.le_refl _)
  have todo := q _ _ g0 g1 (Nat.ne_of_lt (Nat.lt_succ_self _))
  have J := Inv.made (C := C) I1
  have rr : Vals (V.ref (s1.heap.objs.size + 1) :: (vs ++ dvs)) (Value.ref (s1.heap.objs.size + 1) :: (us ++ ds)) := .cons rfl (r.append hd)
  have many : (Value.ref (s1.heap.objs.size + 1) :: us ++ ds).length = ps.length := (rr.length.symm.trans (F.len _ _ _ _ todo))
  refine wpAny_call (make_map (f := f) I1.kIn M.makes M.init (beq_iff_eq.mp M.fn) (codeAny_mono (F.run _ X.stack _ _ ⟨_, []⟩ _ _ _ (E σ) (hr.make C us []) (J.env0.make C us []) (hb _ (Value.ref (s1.heap.objs.size + 1) :: us) J.kIn many) rr todo) fun
    | .error er, s2, z => hx σ pins _ _ er s2 J z
    | .ok (.ret u), s2, z => ?_
    | .ok .next, _, z => False.elim z
    | .ok .brk, _, z => False.elim z
    | .ok .cont, _, z => False.elim z))
  obtain ⟨v, H3, J3, rv, rfl, z3⟩ := J.after z
  exact ⟨rv, .ref (s1.heap.objs.size + 1), H3, J3, rfl, z3⟩
end
end My

set_option Elab.async false
set_option linter.all false
set_option maxRecDepth 100000
set_option maxHeartbeats 4000000
/-! ### a list comprehension of two clauses -/
namespace My
open PySem L2
/-- the inner clause: it adds to the list at D; Nx behind it -/
def tLcIn (wi : TI) (g : TG) (tt : TT) (te : TE) (vs : List Nat) (D : Addr) (σ : L2.St) (H : Hp) (Nx : Hp → Prop) : Prop := wi σ H fun J H1 => ∃ W : Nat → Nat → Hp → Prop, (∃ m, W 0 m H1) ∧ ∀ i m H, W i m H →
  (J.stop i H ∧ Nx H) ∨ (J.go i H ∧ ∃ N2 : Hp → Prop, (∀ H', N2 H' → ∃ m', m' < m ∧ W (i + 1) m' H') ∧ ∀ x H', J.yld i H x H' → g x (wipe σ vs) H' fun σ2 H2 => wipe σ2 vs = wipe σ vs ∧ tt σ2 H2 fun b H3 =>
    if b = true then te σ2 H3 fun y H4 => ∃ acc, H4 D = some (.lst acc) ∧ acc.length < sizeLine ∧ N2 (upd H4 D (.lst (acc ++ [y]))) else N2 H3)
def tLc2 (wi1 : TI) (g1 : TG) (tt1 : TT) (wi2 : TI) (g2 : TG) (tt2 : TT) (te : TE) (vs vs2 : List Nat) : TE := fun σ H Q => wi1 σ H fun J H1 => ∀ D, H1 D = none → ∃ W : Nat → Nat → Hp → Prop, (∃ m, W 0 m (upd H1 D (.lst []))) ∧ ∀ i m H, W i m H →
  (J.stop i H ∧ Q (.ref D) H) ∨ (J.go i H ∧ ∃ Nx : Hp → Prop, (∀ H', Nx H' → ∃ m', m' < m ∧ W (i + 1) m' H') ∧ ∀ x H', J.yld i H x H' → g1 x (wipe σ vs) H' fun σ2 H2 => wipe σ2 vs = wipe σ vs ∧ tt1 σ2 H2 fun b H3 =>
    if b = true then tLcIn wi2 g2 tt2 te vs2 D σ2 H3 Nx else Nx H3)
section
variable {X : Cx} {elt t1 it1 t2 it2 : Expr} {ifs1 ifs2 : List Expr} {scope : Scope} {pos : Pos} {wi1 wi2 : TI} {g1 g2 : TG} {tt1 tt2 : TT} {te : TE} {vs vs2 : List Nat}
theorem lc2_in (hx : X.xe = fun _ _ => False) (hc : X.calm = true) (hi : PI X t2 it2 wi2) (pg : PG X t2 g2) (pt : PTs X ifs2 tt2) (pe : PE X elt te) {pins : List (Addr × Obj)} {s : Shared} {σ : L2.St} {H : Hp} {D : Addr} {Nx : Hp → Prop} (I : Inv X pins σ H s) (h : tLcIn wi2 g2 tt2 te vs2 D σ H Nx) :
    wpAny (model X.prog X.w) X.A (eval it2 X.env) (fun xv s1 => wpAny (model X.prog X.w) X.A (pyIter xv) (fun itv s2 => ∀ (R : Result → Shared → Prop), (∀ s' H', Inv X pins (wipe σ vs2) H' s' → Nx H' → R (.ok .next) s') →
      codeAny (model X.prog X.w) X.A (.compStart (.ListComp elt [⟨t1, it1, ifs1, 0⟩, ⟨t2, it2, ifs2, 0⟩] scope pos) 1 itv (.ref D) X.env) R s2) (fun _ _ => False) s1) (fun _ _ => False) s := by
  have key := hi.run pins s σ H _ I h
  rw [hx] at key
  refine wpAny_mono key (fun xv s1 h1 => wpAny_mono h1 (fun itv s2 h2 => ?_) fun _ _ z => z) fun _ _ z => z
  obtain ⟨it, fp, tn, J, H2, e, I2, T, st2, f2, W, ⟨m0, w0⟩, turn⟩ := h2
  subst e
  intro R fin
  have stat : ∀ {H' : Hp}, (∀ b ∈ fp, H' b = none) → ∀ b ∈ fp, FpOk X pins H' b := fun hn b hb => ⟨hn b hb, (f2 b hb).2⟩
  have I2w : Inv X pins (wipe σ vs2) H2 s2 := I2.weak (wipe_length ..) (fun j v e => (wipe_some e).1)
  have loop : codeAny (model X.prog X.w) X.A (.compLoop (.ListComp elt [⟨t1, it1, ifs1, 0⟩, ⟨t2, it2, ifs2, 0⟩] scope pos) 1 (.ref it) (.ref D) X.env) R s2 := by
    refine codeAny_loop rfl (fun n s' => ∃ i H', Inv X pins (wipe σ vs2) H' s' ∧ tn i s'.heap ∧ (∀ b ∈ fp, H' b = none) ∧ W i n H') ?_ m0 ⟨0, H2, I2w, st2, fun b hb => (f2 b hb).1, w0⟩
    rintro n s3 ⟨i, H3, I3, st3, fr3, w3⟩
    show wpAny _ X.A ((compTurn (.ListComp elt [⟨t1, it1, ifs1, 0⟩, ⟨t2, it2, ifs2, 0⟩] scope pos) 1 (.ref it) (.ref D) X.env).onRaise (fun x => do noteFrame x X.env; theTreesLotGoes x)) _ _ s3
    refine wpAny_noted ?_
    rw [compTurn_list2_in]
    refine wpAny_bind (wpAny_standAt ?_)
    rcases turn i n H3 w3 with ⟨stop, qn⟩ | ⟨go, N2, hN, step⟩
    · refine wpAny_bind (thnF (T.done X rfl rfl rfl hc i pins s3 _ H3 (fun _ _ => False) I3 (stat fr3) st3 stop) fun r s4 hr => ?_)
      obtain ⟨hr, I4⟩ := hr
      subst hr
      exact wpAny_pure (fin s4 H3 I4 qn)
    · refine wpAny_bind (thnF (T.item X rfl rfl rfl hc i pins s3 _ H3 (fun _ _ => False) I3 (stat fr3) st3 go) fun r s4 hr => ?_)
      obtain ⟨u, hr, h4⟩ := hr
      subst hr
      refine wpAny_bind (thnF h4 fun _ s5 h5 => ?_)
      obtain ⟨x, H5, I5, r5, y5, st5, fr5⟩ := h5
      have I5' := I5.pinned (stat fr5) (T.obj _ _ st5)
      have kg := pg.run _ s5 _ H5 x u _ I5' r5 (step x H5 y5)
      rw [hx] at kg
      refine wpAny_bind (thnF kg fun _ s6 h6 => ?_)
      obtain ⟨σ6, H6, I6, hw6, q6⟩ := h6
      have kt := pt.run _ s6 σ6 H6 _ I6 q6
      rw [hx] at kt
      refine wpAny_bind (thnF kt fun b s7 h7 => ?_)
      obtain ⟨H7, I7, q7⟩ := h7
      have again : ∀ {s' : Shared} {H' : Hp}, Inv X (pins ++ pinsAt fp s5.heap) σ6 H' s' → N2 H' → ∃ m, m < n ∧ ∃ i H', Inv X pins (wipe σ vs2) H' s' ∧ tn i s'.heap ∧ (∀ b ∈ fp, H' b = none) ∧ W i m H' := fun {s' H'} I' n7 => by
        obtain ⟨m', hm, w7⟩ := hN H' n7
        have hl : (wipe σ vs2).length = σ6.length := by rw [← hw6, wipe_length]
        refine ⟨m', hm, i + 1, H', (I'.unpinned (pins := pins)).weak hl (fun j v e => ?_), T.keep _ _ _ st5 fun b hb o e => (I'.pin (b, o) (List.mem_append_right _ (List.mem_append_right _ (mem_pinsAt hb e)))).1, fun b hb => ?_, w7⟩
        · rw [← hw6] at e
          exact (wipe_some e).1
        · obtain ⟨o, e, d⟩ := T.obj _ _ st5 b hb
          exact (I'.pin (b, o) (List.mem_append_right _ (List.mem_append_right _ (mem_pinsAt hb e)))).2.1
      cases b with
      | false =>
        simp only [Bool.false_eq_true, if_false] at q7 ⊢
        exact wpAny_pure ⟨rfl, again I7 q7⟩
      | true =>
        simp only [if_true] at q7 ⊢
        have ke := pe.run _ s7 σ6 H7 _ I7 q7
        rw [hx] at ke
        refine wpAny_bind (wpAny_bind (thnF ke fun z s8 h8 => ?_))
        obtain ⟨yv, H8, I8, r8, acc, hD8, hz8, nx⟩ := h8
        exact wpAny_bind (app_ok (X := X) I8 hD8 hz8 r8 fun s9 I9 => wpAny_pure (wpAny_pure ⟨rfl, again I9 nx⟩))
  exact compStart_list2_in loop (T.self X.A 0 _ _ _ st2 loop)
theorem lc2_core {own : List (Str × Nat)} (hc : X.calm = true) (hN : X.N.Nodup) (first : PI X t1 it1 wi1) (ok : BlkOk X.N X.env.scope scope own) (sub : ∀ j ∈ vs2, j ∈ own.map (·.2))
    (P1 : ∀ (s : Shared) (H : Hp) (C : Addr) (cl : List (Str × Addr)) (fp : List Addr), PG (X.blk s H scope (compEnvC scope cl C X.env) fp) t1 g1) (C1 : ∀ (s : Shared) (H : Hp) (C : Addr) (cl : List (Str × Addr)) (fp : List Addr), PTs (X.blk s H scope (compEnvC scope cl C X.env) fp) ifs1 tt1)
    (I2 : ∀ (s : Shared) (H : Hp) (C : Addr) (cl : List (Str × Addr)) (fp : List Addr), PI (X.blk s H scope (compEnvC scope cl C X.env) fp) t2 it2 wi2)
    (P2 : ∀ (s : Shared) (H : Hp) (C : Addr) (cl : List (Str × Addr)) (fp : List Addr), PG (X.blk s H scope (compEnvC scope cl C X.env) fp) t2 g2) (C2 : ∀ (s : Shared) (H : Hp) (C : Addr) (cl : List (Str × Addr)) (fp : List Addr), PTs (X.blk s H scope (compEnvC scope cl C X.env) fp) ifs2 tt2)
    (el : ∀ (s : Shared) (H : Hp) (C : Addr) (cl : List (Str × Addr)) (fp : List Addr), PE (X.blk s H scope (compEnvC scope cl C X.env) fp) elt te)
    (h1 : ∀ x, foldedSetIterable it1 X.env x = pure x ) (h2 : ∀ (C : Addr) (cl : List (Str × Addr)) x, foldedSetIterable it2 (compEnvC scope cl C X.env) x = pure x ) {pins : List (Addr × Obj)} {s : Shared} {σ : L2.St} {H : Hp} {Q : VK} {use : Option (Value → Sem Unit)} {Qf : Value → Shared → Prop} (I : Inv X pins σ H s) (rd : tLc2 wi1 g1 tt1 wi2 g2 tt2 te (own.map (·.2)) vs2 σ H Q)
    (behind : ∀ D C s' m H', Inv X pins σ H' s' → Q (.ref D) H' → s'.heap.Ns C m → FpOk X pins H' C → compPost (model X.prog X.w) X.A X.xe use Qf (.ref D) C (.ok .next) s') :
    wpAny (model X.prog X.w) X.A (comprehension (.ListComp elt [⟨t1, it1, ifs1, 0⟩, ⟨t2, it2, ifs2, 0⟩] scope pos) scope X.env (firstIterPos [⟨t1, it1, ifs1, 0⟩, ⟨t2, it2, ifs2, 0⟩] pos) (newList []) false (eval it1 X.env) use) Qf X.xe s := by
  have closed : ∀ y ∈ scope.names, y.2 = .free → ∃ c, X.env.cells.lookup y.1 = some c := fun y hy e =>
    (ok.free y hy e).elim (fun k => I.ok.has _ (.inl k)) (fun k => I.ok.has _ (.inr k))
  refine wpAny_comprehension_free (use := use) rfl h1 (closure_ok closed) ok.kind (fun y hy e => by rw [ok.uniq y hy, e]) (thn (first.run pins s σ H _ I rd) fun xv sA hA => thn hA fun itv sB hB => ?_)
  obtain ⟨it, fp, tn, J, HB, rfl, IB, T, stB, fB, q⟩ := hB
  refine wpAny_newObj_type (newEnv_comp ?_) (by show 0 ≤ sizeLine; decide)
  generalize hD : sB.heap.objs.size = D
  have noD : HB D = none := IB.hok.fresh (Nat.le_of_eq hD)
  obtain ⟨W, ⟨m0, w0⟩, turn⟩ := q D noD
  generalize hs3 : ({ sB with heap := sB.heap.push { cls := .type "list", data := .seq ([] : List Value).toArray } } : Shared) = s3
  have I3 : Inv X pins σ (upd HB D (.lst [])) s3 := by
    rw [← hs3]
    exact IB.laid (t' := sB.toks) (fun b o e => Heap.get?_push_of_some _ e) (Nat.le_of_eq hD) ⟨Nat.zero_le _, [], 0, .nil, by rw [← hD]; exact Heap.get?_push_size _ rfl⟩
  have h3 : s3.heap = sB.heap.push { cls := .type "list", data := .seq ([] : List Value).toArray } := by rw [← hs3]
  have f3 : ∀ b ∈ fp, FpOk X pins (upd HB D (.lst [])) b ∧ b < s3.heap.objs.size := fun b hb => by
    obtain ⟨o, e, _⟩ := T.obj _ _ stB b hb
    have lt : b < sB.heap.objs.size := Heap.lt_size e
    have ne : b ≠ D := by rw [← hD]; exact Nat.ne_of_lt lt
    exact ⟨⟨by rw [upd_ne ne]; exact (fB b hb).1, (fB b hb).2⟩, by rw [h3, Heap.size_push]; exact Nat.lt_succ_of_lt lt⟩
  have st3 : tn 0 s3.heap := T.keep _ _ _ stB fun b _ o e => by rw [h3]; exact Heap.get?_push_of_some _ e
  have I4 := block_start I3 ok hN f3
  have p1 := P1 s3 (upd HB D (.lst [])) s3.heap.objs.size (cellsFrom (s3.heap.objs.size + 1) scope.names (cloFrom X.env.cells scope.names [])) fp
  have c1 := C1 s3 (upd HB D (.lst [])) s3.heap.objs.size (cellsFrom (s3.heap.objs.size + 1) scope.names (cloFrom X.env.cells scope.names [])) fp
  have i2 := I2 s3 (upd HB D (.lst [])) s3.heap.objs.size (cellsFrom (s3.heap.objs.size + 1) scope.names (cloFrom X.env.cells scope.names [])) fp
  have p2 := P2 s3 (upd HB D (.lst [])) s3.heap.objs.size (cellsFrom (s3.heap.objs.size + 1) scope.names (cloFrom X.env.cells scope.names [])) fp
  have c2 := C2 s3 (upd HB D (.lst [])) s3.heap.objs.size (cellsFrom (s3.heap.objs.size + 1) scope.names (cloFrom X.env.cells scope.names [])) fp
  have e2 := el s3 (upd HB D (.lst [])) s3.heap.objs.size (cellsFrom (s3.heap.objs.size + 1) scope.names (cloFrom X.env.cells scope.names [])) fp
  have fold2 := h2 s3.heap.objs.size (cellsFrom (s3.heap.objs.size + 1) scope.names (cloFrom X.env.cells scope.names []))
  show codeAny _ _ (.compStart (.ListComp elt [⟨t1, it1, ifs1, 0⟩, ⟨t2, it2, ifs2, 0⟩] scope pos) 0 (.ref it) (.ref D) (compEnvC scope (cellsFrom (s3.heap.objs.size + 1) scope.names (cloFrom X.env.cells scope.names [])) s3.heap.objs.size X.env)) (compPost (model X.prog X.w) X.A X.xe use Qf (.ref D) s3.heap.objs.size) { s3 with heap := pushCells (s3.heap.push { cls := .type "dict", data := .dict #[] }) scope.names }
  have nfp : ∀ b ∈ fp, (upd HB D (.lst [])) b = none := fun b hb => (f3 b hb).1.1
  generalize hce : compEnvC scope (cellsFrom (s3.heap.objs.size + 1) scope.names (cloFrom X.env.cells scope.names [])) s3.heap.objs.size X.env = ce at I4 p1 c1 i2 p2 c2 e2 fold2 ⊢
  have cL : ce.locals = s3.heap.objs.size := by subst hce; rfl
  generalize hH3 : upd HB D (.lst []) = H3 at I3 I4 p1 c1 i2 p2 c2 e2 w0 nfp f3
  generalize hs4 : ({ s3 with heap := pushCells (s3.heap.push { cls := .type "dict", data := .dict #[] }) scope.names } : Shared) = s4 at I4 ⊢
  have st4 : tn 0 s4.heap := T.keep _ _ _ st3 fun b _ o e => by rw [← hs4]; exact pushCells_keeps _ _ _ _ (Heap.get?_push_of_some _ e)
  have stat : ∀ {σ' : L2.St} {H' : Hp} {s' : Shared}, Inv (X.blk s3 H3 scope ce fp) [] σ' H' s' → (∀ b ∈ fp, H' b = none) → ∀ b ∈ fp, FpOk (X.blk s3 H3 scope ce fp) [] H' b := fun {σ' H' s'} I' hn b hb =>
    ⟨hn b hb, (I'.ok.exf b hb).1, I'.ok.exfs b hb, .inl hb, fun x c e => (I'.ok.exf b hb).2 x c e, fun p hp => absurd (show p ∈ ([] : List (Addr × Obj)) ++ [] from hp) (by simp)⟩
  have loop : codeAny (model X.prog X.w) X.A (.compLoop (.ListComp elt [⟨t1, it1, ifs1, 0⟩, ⟨t2, it2, ifs2, 0⟩] scope pos) 0 (.ref it) (.ref D) ce) (compPost (model X.prog X.w) X.A X.xe use Qf (.ref D) s3.heap.objs.size) s4 := by
    refine codeAny_loop rfl (fun n s' => ∃ i H', Inv (X.blk s3 H3 scope ce fp) [] (wipe σ (own.map (·.2))) H' s' ∧ tn i s'.heap ∧ (∀ b ∈ fp, H' b = none) ∧ W i n H') ?_ m0 ⟨0, H3, I4, st4, nfp, w0⟩
    rintro n s5 ⟨i, H5, I5, st5, n5, w5⟩
    show wpAny _ X.A ((compTurn (.ListComp elt [⟨t1, it1, ifs1, 0⟩, ⟨t2, it2, ifs2, 0⟩] scope pos) 0 (.ref it) (.ref D) ce).onRaise (fun x => do noteFrame x ce; theTreesLotGoes x)) _ _ s5
    refine wpAny_noted ?_
    rw [compTurn_list2_out]
    refine wpAny_bind (wpAny_standAt ?_)
    rcases turn i n H5 w5 with ⟨stop, qq⟩ | ⟨go, Nx, hNx, step⟩
    · refine wpAny_bind (thnF (T.done (X.blk s3 H3 scope ce fp) rfl rfl rfl hc i [] s5 _ H5 (fun _ _ => False) I5 (stat I5 n5) st5 stop) fun r s6 hr => ?_)
      obtain ⟨hr, I6⟩ := hr
      subst hr
      refine wpAny_pure ?_
      have I7 : Inv X pins σ H5 s6 := I3.call' (ch := fp) I6.os I6.base I6.hok I6.bare fun b hb => ⟨(f3 b hb).1.2.2.2.1, (f3 b hb).1.2.1, (f3 b hb).1.2.2.2.2.1, (f3 b hb).1.2.2.2.2.2⟩
      have nC : H5 s3.heap.objs.size = none := by
        have z : H5 ce.locals = none := I6.free
        rw [cL] at z
        exact z
      obtain ⟨m, hn, _⟩ := I6.loc
      have hn : s6.heap.Ns ce.locals m := hn
      rw [cL] at hn
      exact behind D s3.heap.objs.size s6 m H5 I7 qq hn (I3.fpOk (Nat.le_refl _) nC)
    · refine wpAny_bind (thnF (T.item (X.blk s3 H3 scope ce fp) rfl rfl rfl hc i [] s5 _ H5 (fun _ _ => False) I5 (stat I5 n5) st5 go) fun r s6 hr => ?_)
      obtain ⟨u, hr, h6⟩ := hr
      subst hr
      refine wpAny_bind (thnF h6 fun _ s7 h7 => ?_)
      obtain ⟨x, H7, I7, r7, y7, st7, n7⟩ := h7
      have I7' := I7.pinned (stat I7 n7) (T.obj _ _ st7)
      refine wpAny_bind (thnF (p1.run _ s7 _ H7 x u _ I7' r7 (step x H7 y7)) fun _ s8 h8 => ?_)
      obtain ⟨σ8, H8, I8, hw8, q8⟩ := h8
      refine wpAny_bind (thnF (c1.run _ s8 σ8 H8 _ I8 q8) fun b s9 h9 => ?_)
      obtain ⟨H9, I9, q9⟩ := h9
      have back : ∀ {s' : Shared} {σ' : L2.St} {H' : Hp}, Inv (X.blk s3 H3 scope ce fp) ([] ++ pinsAt fp s7.heap) σ' H' s' → (wipe σ (own.map (·.2))).length = σ'.length → (∀ (j : Nat) (v : V), (wipe σ (own.map (·.2)))[j]? = some (some v) → σ'[j]? = some (some v)) → Nx H' →
          ∃ m, m < n ∧ ∃ i H', Inv (X.blk s3 H3 scope ce fp) [] (wipe σ (own.map (·.2))) H' s' ∧ tn i s'.heap ∧ (∀ b ∈ fp, H' b = none) ∧ W i m H' := fun {s' σ' H'} I' hl hv nx => by
        obtain ⟨m', hm, w'⟩ := hNx H' nx
        refine ⟨m', hm, i + 1, H', (I'.unpinned (pins := [])).weak hl hv, T.keep _ _ _ st7 fun b hb o e => (I'.pin (b, o) (List.mem_append_right _ (List.mem_append_right _ (mem_pinsAt hb e)))).1, fun b hb => ?_, w'⟩
        obtain ⟨o, e, _⟩ := T.obj _ _ st7 b hb
        exact (I'.pin (b, o) (List.mem_append_right _ (List.mem_append_right _ (mem_pinsAt hb e)))).2.1
      have hl8 : (wipe σ (own.map (·.2))).length = σ8.length := by rw [← hw8, wipe_length]
      cases b with
      | false =>
        simp only [Bool.false_eq_true, if_false] at q9 ⊢
        exact wpAny_pure ⟨rfl, back I9 hl8 (fun j v e => by rw [← hw8] at e; exact (wipe_some e).1) q9⟩
      | true =>
        simp only [if_true] at q9 ⊢
        refine wpAny_bind (thnF (lc2_in (X := X.blk s3 H3 scope ce fp) (t1 := t1) (it1 := it1) (ifs1 := ifs1) (scope := scope) (pos := pos) rfl hc i2 p2 c2 e2 I9 q9) fun xv s10 h10 => ?_)
        refine wpAny_bind (wpAny_standAt (wpAny_bind (wpAny_of_eq (fold2 xv) ?_)))
        refine wpAny_bind (wpAny_holding (thnF h10 fun itv s11 h11 => ?_))
        refine wpAny_bind (wpAny_runOwn ?_)
        refine h11 _ fun s' H' I' nx => ?_
        refine wpAny_pure ⟨rfl, back I' (by rw [wipe_length, wipe_length]; rw [wipe_length] at hl8; exact hl8) (fun j v e => ?_) nx⟩
        rw [← hw8] at e
        have z := wipe_some e
        rw [wipe_out fun hj => z.2 (sub j hj)]
        exact z.1
  exact codeAny_compStart_list loop (T.self X.A 0 _ _ _ st4 loop)
/-- [elt for t1 in it1 if .. for t2 in it2 if ..] -/
theorem pe_lc2 {own : List (Str × Nat)} (hc : X.calm = true) (hN : X.N.Nodup) (first : PI X t1 it1 wi1) (ok : BlkOk X.N X.env.scope scope own) (sub : ∀ j ∈ vs2, j ∈ own.map (·.2))
    (P1 : ∀ (s : Shared) (H : Hp) (C : Addr) (cl : List (Str × Addr)) (fp : List Addr), PG (X.blk s H scope (compEnvC scope cl C X.env) fp) t1 g1) (C1 : ∀ (s : Shared) (H : Hp) (C : Addr) (cl : List (Str × Addr)) (fp : List Addr), PTs (X.blk s H scope (compEnvC scope cl C X.env) fp) ifs1 tt1)
    (I2 : ∀ (s : Shared) (H : Hp) (C : Addr) (cl : List (Str × Addr)) (fp : List Addr), PI (X.blk s H scope (compEnvC scope cl C X.env) fp) t2 it2 wi2)
    (P2 : ∀ (s : Shared) (H : Hp) (C : Addr) (cl : List (Str × Addr)) (fp : List Addr), PG (X.blk s H scope (compEnvC scope cl C X.env) fp) t2 g2) (C2 : ∀ (s : Shared) (H : Hp) (C : Addr) (cl : List (Str × Addr)) (fp : List Addr), PTs (X.blk s H scope (compEnvC scope cl C X.env) fp) ifs2 tt2)
    (el : ∀ (s : Shared) (H : Hp) (C : Addr) (cl : List (Str × Addr)) (fp : List Addr), PE (X.blk s H scope (compEnvC scope cl C X.env) fp) elt te)
    (h1 : ∀ x, foldedSetIterable it1 X.env x = pure x := by intro _; rfl) (h2 : ∀ (C : Addr) (cl : List (Str × Addr)) x, foldedSetIterable it2 (compEnvC scope cl C X.env) x = pure x := by intro _ _ _; rfl) :
    PE X (.ListComp elt [⟨t1, it1, ifs1, 0⟩, ⟨t2, it2, ifs2, 0⟩] scope pos) (tLc2 wi1 g1 tt1 wi2 g2 tt2 te (own.map (·.2)) vs2) := by
  refine ⟨fun pins s σ H Q I rd => ?_⟩
  rw [eval_ListComp]
  refine lc2_core hc hN first ok sub P1 C1 I2 P2 C2 el h1 h2 I rd fun D C s' m H' I' q hn f => ⟨m, hn, fun h'' sb => ?_⟩
  obtain ⟨f0, f1, f2, f3, f4, f5⟩ := f
  exact ⟨.ref D, H', I'.turned (t' := s'.toks) (fun b o hb e => (sb.2 b hb).trans e) f0 f1 f3 f4 f5, rfl, q⟩
/-- name = [..] on one row, the name a local -/
theorem ps_setLc2 {i : Nat} {y : Str} {py spos : Pos} {own : List (Str × Nat)} (hc : X.calm = true) (hN : X.N.Nodup) (hy : X.N[i]? = some y) (hyl : X.env.scope.names.lookup y = some .local)
    (hsw : swapsWith (.ListComp elt [⟨t1, it1, ifs1, 0⟩, ⟨t2, it2, ifs2, 0⟩] scope pos) (some (.Name y py)) spos.line X.env = pure true) (first : PI X t1 it1 wi1) (ok : BlkOk X.N X.env.scope scope own) (sub : ∀ j ∈ vs2, j ∈ own.map (·.2))
    (P1 : ∀ (s : Shared) (H : Hp) (C : Addr) (cl : List (Str × Addr)) (fp : List Addr), PG (X.blk s H scope (compEnvC scope cl C X.env) fp) t1 g1) (C1 : ∀ (s : Shared) (H : Hp) (C : Addr) (cl : List (Str × Addr)) (fp : List Addr), PTs (X.blk s H scope (compEnvC scope cl C X.env) fp) ifs1 tt1)
    (I2 : ∀ (s : Shared) (H : Hp) (C : Addr) (cl : List (Str × Addr)) (fp : List Addr), PI (X.blk s H scope (compEnvC scope cl C X.env) fp) t2 it2 wi2)
    (P2 : ∀ (s : Shared) (H : Hp) (C : Addr) (cl : List (Str × Addr)) (fp : List Addr), PG (X.blk s H scope (compEnvC scope cl C X.env) fp) t2 g2) (C2 : ∀ (s : Shared) (H : Hp) (C : Addr) (cl : List (Str × Addr)) (fp : List Addr), PTs (X.blk s H scope (compEnvC scope cl C X.env) fp) ifs2 tt2)
    (el : ∀ (s : Shared) (H : Hp) (C : Addr) (cl : List (Str × Addr)) (fp : List Addr), PE (X.blk s H scope (compEnvC scope cl C X.env) fp) elt te)
    (h1 : ∀ x, foldedSetIterable it1 X.env x = pure x := by intro _; rfl) (h2 : ∀ (C : Addr) (cl : List (Str × Addr)) x, foldedSetIterable it2 (compEnvC scope cl C X.env) x = pure x := by intro _ _ _; rfl) :
    PS X (.Assign [.Name y py] (.ListComp elt [⟨t1, it1, ifs1, 0⟩, ⟨t2, it2, ifs2, 0⟩] scope pos) spos) (tAsg (tLc2 wi1 g1 tt1 wi2 g2 tt2 te (own.map (·.2)) vs2) (gName i)) := by
  refine ⟨fun pins s σ H D I h => ?_⟩
  rw [exec_Assign_Name_used _ _ _ _ hsw]
  refine wpAny_bind (wpAny_standAt (wpAny_bind ?_))
  show wpAny _ X.A (do let _ ← comprehension (.ListComp elt [⟨t1, it1, ifs1, 0⟩, ⟨t2, it2, ifs2, 0⟩] scope pos) scope X.env (firstIterPos [⟨t1, it1, ifs1, 0⟩, ⟨t2, it2, ifs2, 0⟩] pos) (newList []) false (eval it1 X.env) (some (assign (.Name y py) X.env))) _ _ s
  have h : tLc2 wi1 g1 tt1 wi2 g2 tt2 te (own.map (·.2)) vs2 σ H (fun x H1 => gName i x σ H1 D.nx) := h
  refine wpAny_bind (thn (lc2_core (Qf := fun _ s' => SP X pins D .next s') hc hN first ok sub P1 C1 I2 P2 C2 el h1 h2 I h fun L C s' m H' I' q hn f => ?_) fun _ s' hq => wpAny_pure (wpAny_pure hq))
  show wpAny _ _ (assign (.Name y py) X.env (.ref L)) _ _ _
  refine wpAny_assign_Name (store_ok2 (v := V.ref L) I' hN hy (.inl hyl) rfl (fun s2 J ⟨a, sb, ha⟩ => ?_) (.inr hyl))
  obtain ⟨f0, f1, f2, f3, f4, f5⟩ := f
  have ne : C ≠ a := ha.elim (fun z => by rw [z]; exact f1) fun z e => f4 y a z e.symm
  exact ⟨m, hn.sameBut sb ne, fun h3 sb3 => ⟨_, H', J.turned (t' := s2.toks) (fun b o hb e => (sb3.2 b hb).trans e) f0 f1 f3 f4 f5, q⟩⟩
end
end My

set_option Elab.async false
set_option linter.all false
set_option maxRecDepth 100000
set_option maxHeartbeats 4000000
/-! ### [te for p in range(m) for q in range(n)] -/
namespace My
open PySem L2
theorem it_range {m : Nat} {W0 : Hp → Prop} (Pv : Nat → Hp → Prop) {H : Hp} (h0 : Pv 0 H) {Nx : Hp → Prop} {g : TG} {tt : TT} {te : TE} {vs : List Nat} {σ : L2.St} {D : Addr}
    (step : ∀ i H', i < m → Pv i H' → g (.int (i : Nat)) (wipe σ vs) H' fun σ2 H2 => wipe σ2 vs = wipe σ vs ∧ tt σ2 H2 fun b H3 => if b = true then te σ2 H3 fun y H4 => ∃ acc, H4 D = some (.lst acc) ∧ acc.length < sizeLine ∧ Pv (i + 1) (upd H4 D (.lst (acc ++ [y]))) else Pv (i + 1) H3)
    (fin : ∀ H', Pv m H' → Nx H') : ∃ W : Nat → Nat → Hp → Prop, (∃ k, W 0 k H) ∧ ∀ i k H, W i k H →
  ((Itr 0 m).stop i H ∧ Nx H) ∨ ((Itr 0 m).go i H ∧ ∃ N2 : Hp → Prop, (∀ H', N2 H' → ∃ m', m' < k ∧ W (i + 1) m' H') ∧ ∀ x H', (Itr 0 m).yld i H x H' → g x (wipe σ vs) H' fun σ2 H2 => wipe σ2 vs = wipe σ vs ∧ tt σ2 H2 fun b H3 =>
    if b = true then te σ2 H3 fun y H4 => ∃ acc, H4 D = some (.lst acc) ∧ acc.length < sizeLine ∧ N2 (upd H4 D (.lst (acc ++ [y]))) else N2 H3) := by
  refine ⟨fun i k H => k + i = m ∧ Pv i H, ⟨m, rfl, h0⟩, fun i k H h => ?_⟩
  obtain ⟨e, p⟩ := h
  rcases Nat.lt_or_ge i m with lt | ge
  · refine .inr ⟨lt, Pv (i + 1), fun H' p' => ⟨k - 1, by omega, by omega, p'⟩, fun x H' y => ?_⟩
    obtain ⟨rfl, rfl⟩ := y
    rw [Int.zero_add]
    exact step i H' lt p
  · have z : i = m := by omega
    exact .inl ⟨by subst z; first | rfl | exact Nat.le_refl _, fin H (by rw [← z]; exact p)⟩
theorem lc2Rg {ta tb : TA} {te : TE} {σ : L2.St} {H : Hp} {Q : VK} {p q : Nat} (m n : Nat) (hm : m ≤ 1000) (hn : n ≤ 1000) (Pv : Addr → Nat → Nat → Hp → Prop)
    (ha : ∀ R : List V → Hp → Prop, R [.int (m : Nat)] H → ta σ H R)
    (hb : ∀ (D : Addr) (i : Nat) (H' : Hp) (R : List V → Hp → Prop), H D = none → i < m → Pv D i 0 H' → R [.int (n : Nat)] H' → tb ((wipe σ [p, q]).set p (some (.int (i : Nat)))) H' R)
    (hw1 : ∀ x, wipe ((wipe σ [p, q]).set p (some x)) [p, q] = wipe σ [p, q])
    (hw2 : ∀ x y, wipe ((wipe ((wipe σ [p, q]).set p (some x)) [q]).set q (some y)) [q] = wipe ((wipe σ [p, q]).set p (some x)) [q])
    (h0 : ∀ D, H D = none → Pv D 0 0 (upd H D (.lst [])))
    (body : ∀ (D : Addr) (i j : Nat) (H' : Hp), H D = none → i < m → j < n → Pv D i j H' → te ((wipe ((wipe σ [p, q]).set p (some (.int (i : Nat)))) [q]).set q (some (.int (j : Nat)))) H' fun y H4 => ∃ acc, H4 D = some (.lst acc) ∧ acc.length < sizeLine ∧ Pv D i (j + 1) (upd H4 D (.lst (acc ++ [y]))))
    (nextRow : ∀ (D : Addr) (i : Nat) (H' : Hp), Pv D i n H' → Pv D (i + 1) 0 H') (fin : ∀ D H', H D = none → Pv D m 0 H' → Q (.ref D) H') :
    tLc2 (iRng1 ta) (gName p) tYes (iRng1 tb) (gName q) tYes te [p, q] [q] σ H Q := by
  refine ha _ ⟨(m : Nat), rfl, by omega, by omega, fun D nD => ?_⟩
  rw [Int.toNat_natCast]
  refine ⟨fun i k H' => k + i = m ∧ Pv D i 0 H', ⟨m, rfl, h0 D nD⟩, fun i k H1 h => ?_⟩
  obtain ⟨e, pv⟩ := h
  rcases Nat.lt_or_ge i m with lt | ge
  · refine .inr ⟨lt, Pv D (i + 1) 0, fun H' p' => ⟨k - 1, by omega, by omega, p'⟩, fun x H' y => ?_⟩
    obtain ⟨rfl, rfl⟩ := y
    rw [Int.zero_add]
    refine ⟨hw1 _, ?_⟩
    simp only [tYes, if_true]
    refine hb D i H' _ nD lt pv ⟨(n : Nat), rfl, by omega, by omega, ?_⟩
    rw [Int.toNat_natCast]
    exact it_range (W0 := fun _ => True) (Pv D i) pv (fun j H2 hj pj => ⟨hw2 _ _, body D i j H2 nD lt hj pj⟩) fun H2 pj => nextRow D i H2 pj
  · have z : i = m := by omega
    exact .inl ⟨by subst z; first | rfl | exact Nat.le_refl _, fin D H1 nD (by rw [← z]; exact pv)⟩
end My

set_option Elab.async false
set_option linter.all false
set_option maxRecDepth 100000
/-! ### raised out of a walk of a dict: behind it the dict stands as before -/
namespace My
open PySem L2
/-- the same wish, asked where the walked dict is free again -/
def WLock (X : Cx) (W : WX) : WX := fun cls dx σ H => ∃ (d : Addr) (u : HO) (od : Obj), H d = some (.frz od u) ∧ (∀ o v, X.H_0 d ≠ some (.frz o v)) ∧ W cls dx σ (upd H d u)
theorem takes_lock {X : Cx} {W : WX} (tk : Takes X W) : Takes X (WLock X W) := by
  rintro e s' ⟨a, B, sI, pins, σ, H, cls, dx, rfl, I, nb, up, sky, na, os, ag, d, u, od, hd, nf, w⟩
  have ad : a ≠ d := fun z => by rw [z, hd] at na; cases na
  exact tk _ _ ⟨a, B, sI, pins, σ, upd H d u, cls, dx, rfl, I.unlock hd nf, nb, up, sky, by rw [upd_ne ad]; exact na, os, ag, w⟩
end My

set_option Elab.async false
set_option linter.all false
set_option maxRecDepth 100000
set_option maxHeartbeats 4000000
/-! ### defs that close over their class, and super().__init__(..) of an own error -/
namespace My
open PySem L2 NdefX
/-- a block whose activation is known -/
structure PSat (X : Cx) (c : Code) (body : List Stmt) (t : TS) : Prop where
  run : ∀ (pins : List (Addr × Obj)) (s : Shared) (σ : L2.St) (H : Hp) (D : Ends), Inv X pins σ H s → t D σ H → wpAt (model X.prog X.w) X.A c (execs body X.env) (SP X pins D) X.xe s
structure PSat1 (X : Cx) (c : Code) (st : Stmt) (t : TS) : Prop where
  run : ∀ (pins : List (Addr × Obj)) (s : Shared) (σ : L2.St) (H : Hp) (D : Ends), Inv X pins σ H s → t D σ H → wpAt (model X.prog X.w) X.A c (exec st X.env) (SP X pins D) X.xe s
theorem psat_of {X : Cx} {c : Code} {body : List Stmt} {t : TS} (h : PSs X body t) : PSat X c body t := ⟨fun pins s σ H D I q => wpAt_of_wpAny (h.run pins s σ H D I q)⟩
theorem psat_cons {X : Cx} {c : Code} {st : Stmt} {rest : List Stmt} {t u : TS} (h1 : PSat1 X c st t) (h2 : PSs X rest u) : PSat X c (st :: rest) (tSeq t u) := by
  refine ⟨fun pins s σ H D I q => ?_⟩
  refine PySem.ks_wpAt_execs_cons (wpAt_mono (h1.run pins s σ H { D with nx := u D } I q) (fun f s1 r => ?_) fun _ _ z => z)
  cases f with
  | next =>
    obtain ⟨σ', H', I', r⟩ := r
    exact wpAt_of_wpAny (h2.run pins s1 σ' H' D I' r)
  | brk => exact r
  | cont => exact r
  | ret u => exact r
/-- the words of a def that closes over its class -/
def nfOf (x qual : Str) (st : Stmt) (cc cda : Addr) : NF := ⟨x, qual, defArgs st, defBody st, defScope st, [("__class__", cc)], cda⟩
structure FunX (K : PySem.W.Frag) (x qual : Str) (st : Stmt) (f : Addr) (fd : FuncData) (cc cda D : Addr) : Prop where
  ex : ∃ (oc : Value) (od : Option Addr) (kV doc pm : Value) (an : Option Addr) (ct : Value) (osl : Array (Option Value)),
    fd = PySem.W.fnX x qual (defArgs st) (defBody st) (defScope st) [("__class__", cc)] .none kV doc pm an (.ref cda) ct ∧ K.lookup f = some ⟨oc, od, .func fd, osl⟩ ∧ PySem.W.codeIn K (.ref cda) qual = true
  cell : ∃ (cl : Value) (cld : Option Addr) (csl : Array (Option Value)), K.lookup cc = some ⟨cl, cld, .cell (some (.ref D)), csl⟩
  kp : PySem.W.keepIn K (.ref f) = true
section
variable {P : Program} {w : World} {K : PySem.W.Frag} {mg : Str → Option Value} {base : Heap}
abbrev cxX (CX : CXT) (P : Program) (w : World) (K : PySem.W.Frag) (mg : Str → Option Value) (base : Heap) (N : List Str) (x qual : Str) (st : Stmt) (cc cda f : Addr) (A : Around) (outer : List Env) (s : Shared) (H : Hp) (E : XK) : Cx := ncx CX P w K mg base N (nfOf x qual st cc cda) f A outer s H E
theorem FunX.ok {CX : CXT} {x qual : Str} {st : Stmt} {f cc cda D : Addr} {fd : FuncData} {N ps : List Str} {k : Nat} {sp : Sp} (F : FunX K x qual st f fd cc cda D) (S : NScope N ps ["__class__"] (defScope st)) (len : ∀ vs H Q E, sp vs H Q E → vs.length = ps.length)
    (hbody : ∀ (A : Around) (outer : List Env) (s : Shared) (H : Hp) (vs : List V) (Q : VK) (E : XK), Room k (A.deeper (envF (nfOf x qual st cc cda) f s.heap.objs.size)) → sp vs H Q E →
      ∃ t, PSat (cxX CX P w K mg base N x qual st cc cda f A outer s H E) (.func (defBody st) (envF (nfOf x qual st cc cda) f s.heap.objs.size)) (defBody st) t ∧ t { nx := fun _ H' => Q .non H', rt := Q } (startF N vs [some (.ref D)]) H) :
    FnOk P w K mg base CX (k + 1) f fd ps sp := by
  obtain ⟨oc, od, kV, doc, pm, an, ct, osl, rfl, lk, hcd⟩ := F.ex
  obtain ⟨cl, cld, csl, hcc⟩ := F.cell
  refine ⟨len, fun A outer s H args us vs Q E hr e0 hb r hsp => ?_⟩
  have hl := len _ _ _ _ hsp
  have KX : K.In s.heap := e0.mod.kin.keeps fun b o e => (e0.bs b o e).1
  have lim : s.heap.NoLimit := e0.mod.nolimit.keeps fun b o e => (e0.bs b o e).1
  have hcB := e0.mod.kin _ _ hcc
  have C : CellsAt (nfOf x qual st cc cda).cl ["__class__"] [some (.ref D)] s.heap H := by
    refine ⟨rfl, fun y c e => ?_, fun a b c e1 e2 => ?_, fun i y e => ?_⟩
    · have e' : (if y = ("__class__" : Str) then some cc else none) = some c := by
        rw [← e]
        show _ = List.lookup y [(("__class__" : Str), cc)]
        rw [List.lookup_cons, List.lookup_nil]
        by_cases h : y = ("__class__" : Str)
        · rw [if_pos h, beq_iff_eq.mpr h]
        · rw [if_neg h, beq_eq_false_iff_ne.mpr h]
      split at e'
      · cases e'
        exact ⟨(e0.bs _ _ hcB).2, _, _, KX _ _ hcc, rfl⟩
      · cases e'
    · have g : ∀ (y : Str) (d : Addr), List.lookup y [(("__class__" : Str), cc)] = some d → y = "__class__" := by
        intro y d e
        rw [List.lookup_cons, List.lookup_nil] at e
        by_cases h : y = ("__class__" : Str)
        · exact h
        · rw [beq_eq_false_iff_ne.mpr h] at e
          cases e
      exact (g a c e1).trans (g b c e2).symm
    · match i, e with
      | 0, e =>
        have ey : y = "__class__" := (Option.some.inj e).symm
        subst ey
        exact ⟨cc, rfl, fun v hv => ⟨.ref D, by cases hv; rfl, _, KX _ _ hcc, rfl⟩⟩
      | i + 1, e => cases e
  refine PySem.ks_codeAny_call_defAt (fd := PySem.W.fnX x qual (defArgs st) (defBody st) (defScope st) [("__class__", cc)] .none kV doc pm an (.ref cda) ct) (body := defBody st) (binds := ps.zip us) hr.depth (KX _ _ lk) rfl lim (PySem.W.codeRec_of KX hcd) rfl hb S.nocell (fun ⟨n, v⟩ hy => S.par n (List.of_mem_zip hy).1) (fun h₁ hns kp => ?_) S.co S.gen S.kind
  obtain ⟨t, ht, hq⟩ := hbody A outer s H vs Q E (hr.deeper _) hsp
  have I : Inv (cxX CX P w K mg base N x qual st cc cda f A outer s H E) [] (startF N vs [some (.ref D)]) H { s with heap := h₁, toks := s.toks + (ps.zip us).length } := inv_startN S hr.hd e0 hl r C hns kp
  refine wpAt_mono (ht.run [] _ (startF N vs [some (.ref D)]) H _ I hq) (fun fl s' hs => ?_) fun e s' hs => hs
  have fin : ∀ {σ' : L2.St} {H' : Hp} {v : V} {u : Value}, Inv (cxX CX P w K mg base N x qual st cc cda f A outer s H E) [] σ' H' s' → L2.RelV v u → Q v H' → CE outer P w H s Q u s' :=
    fun {σ' H' v u} J rv q => ⟨v, H', J.os, J.bare, J.base, J.hok, rv, q⟩
  cases fl with
  | ret u =>
    obtain ⟨v, σ', H', J, rv, q⟩ := hs
    exact fin J rv q
  | next =>
    obtain ⟨σ', H', J, q⟩ := hs
    exact fin (v := V.non) (u := Value.none) J rfl q
  | brk =>
    obtain ⟨_, _, _, q⟩ := hs
    exact False.elim q
  | cont =>
    obtain ⟨_, _, _, q⟩ := hs
    exact False.elim q
end

/-! ### super().__init__(e) -/
/-- what the written part says of an own error that is made by an __init__ of its own: OexC, its place in the chain -/
structure ErrC (K : PySem.W.Frag) (C : Addr) : Prop where
  ox : OexC K C
  sup : PySem.W.ks_superIn K C C "__init__" = some (some (.builtin "ValueError.__init__"))
  isV : PySem.W.subIn K (.ref C) (.type "ValueError") = some true
  opq : PySem.W.nsIn K cStatics "thirdparty.any" = some none
  me : PySem.W.mroIn K C (.ref C) = some true
/-- what the code object of the def tells -/
structure CodeF (K : PySem.W.Frag) (P : Program) (cda : Addr) : Prop where
  at_ : ∃ (ccl : Value) (cdd : Option Addr) (vs : Array Value) (ccs : Array (Option Value)) (file : Str) (tf : Tok), K.lookup cda = some ⟨ccl, cdd, .fields vs, ccs⟩ ∧ vs[2]? = some (.str file tf) ∧ ((P.main.file : Str) == file) = true
  noTop : (P.main.scope.names.lookup ("super" : Str)).isSome = false
/-- the reading: the text is reckoned, nothing more -/
def tSupI (C : Addr) (ta : TA) : TS := fun D σ H => ∃ a : Addr, σ[0]? = some (some (.ref a)) ∧ H a = some (exo a C none) ∧ ta σ H fun vs H1 => vs.length ≤ 1000 ∧ H1 a = some (exo a C none) ∧ D.nx σ H1
section
variable {X : Cx}
theorem psat_sup {body : List Stmt} {f cc cda C : Addr} {fd : FuncData} {oc : Value} {od : Option Addr} {osl : Array (Option Value)} {cl : Value} {cld : Option Addr} {csl : Array (Option Value)} {ar : Arg} {e : Expr} {es : List Expr} {ta : TA} {p0 p1 apos cpos pos : Pos} {pl : Sem Bool}
    (T : ErrC X.K C) (G : CodeF X.K X.prog cda)
    (hf : X.K.lookup f = some ⟨oc, od, .func fd, osl⟩) (hp : (fd.params.posonlyargs ++ fd.params.args).head? = some ar)
    (hcell : X.K.lookup cc = some ⟨cl, cld, .cell (some (.ref C)), csl⟩) (hsuper : X.mg "super" = none)
    (hfu : X.env.func = some f) (hco : X.env.code = .ref cda) (hcl : X.env.cells.lookup ("__class__" : Str) = some cc)
    (hks : X.env.scope.names.lookup ("super" : Str) = some .globalImplicit) (hkc : X.env.scope.names.lookup ("__class__" : Str) = some .free) (hka : X.env.scope.names.lookup ar.arg = some .local)
    (hN : X.N[0]? = some ar.arg) (ha : PA X (e :: es) ta)
    (hev : eval (.Call (.Attribute (.Call (.Name "super" p0) [] [] p1) "__init__" apos) (e :: es) [] cpos) X.env = (do
      let ov ← attributeBase (.Call (.Name "super" p0) [] [] p1) "__init__" X.env (eval (.Call (.Name "super" p0) [] [] p1) X.env)
      standAt apos.atName
      let (f, first) ← holding [ov] (getMethod ov "__init__" pl)
      callWith cpos f first (backTo cpos (starEach (e :: es) X.env)) []))
    (hst : starEach (e :: es) X.env = (false, eval e X.env) :: starEach es X.env) (hpl : (backTo cpos (starEach es X.env)).any (·.1) = false)
    (hsw : swapsWith (.Call (.Attribute (.Call (.Name "super" p0) [] [] p1) "__init__" apos) (e :: es) [] cpos) none pos.line X.env = pure false) (hint : interactive X.env = false) :
    PSat1 X (.func body X.env) (.Expr (.Call (.Attribute (.Call (.Name "super" p0) [] [] p1) "__init__" apos) (e :: es) [] cpos) pos) (tSupI C ta) := by
  refine ⟨fun pins s σ H D I h => ?_⟩
  obtain ⟨a, hσ, ea, q⟩ := h
  obtain ⟨ccl, cdd, vs, ccs, file, tf, hcode, hvs, hfile⟩ := G.at_
  obtain ⟨nm, qn, N, bs, bm, sn, sub, ab, col, dd, k0, k1, k2, k3, k5, hC, hbm⟩ := T.ox.cls
  have hcls : PySem.W.clsIn X.K C = some { name := nm, bases := bs, mro := .ref C :: bm, ns := N, qualname := qn, hasDict := true, slotNames := sn, subclasses := sub, abstract := ab, collection := col, hasDel := false } := by unfold PySem.W.clsIn; rw [hC] <;> rfl
  obtain ⟨t1, ho⟩ := exo_at I.hok ea
  obtain ⟨hh, g, d, t, os⟩ := s
  have XK := I.kIn
  obtain ⟨mb, hb1, hb2⟩ := I.mod.blt
  obtain ⟨m, hn, hl⟩ := id I.loc
  obtain ⟨u0, ru0, lk0⟩ := hl 0 ar.arg (.ref a) hN hσ (.inl hka)
  obtain rfl : u0 = Value.ref a := ru0
  have hv : m ar.arg = some (Value.ref a) := by
    rcases lk0 with ⟨_, e⟩ | ⟨z, _⟩
    · exact e
    · exfalso
      rcases z with z | z
      · have z' : X.env.scope.names.lookup ar.arg = some .cell := z
        rw [hka] at z'; cases z'
      · have z' : X.env.scope.names.lookup ar.arg = some .free := z
        rw [hka] at z'; cases z'
  refine PySem.ks_wpAt_Expr_any (PySem.ks_wpAt_MethodCall ?_ hev) hint hsw
  refine PySem.ks_wpAt_super_base (env := X.env) hks hkc (by decide) hfu (XK _ _ hf) rfl hp hco (XK _ _ hcode) rfl hvs hfile G.noTop ?_
  refine PySem.W.ks_loadName_global I.ok.kind hks (PySem.Calls.loadGlobal_builtin (by rw [I.ok.glob]; exact I.mod.glob.keeps I.bk) hsuper (by rw [I.ok.blt]; exact hb1.keeps I.bk) ((hb2 "super" (by decide)).trans (by decide +kernel)) ⟨rfl, ?_⟩)
  refine wpAny_loadName_free I.ok.kind hkc hcl ⟨_, XK _ _ hcell, rfl⟩ ?_
  refine wpAny_loadName_local I.ok.kind hka hn hv ?_
  refine ks_wpAny_isType_cls (XK _ _ hC) rfl ⟨rfl, ?_⟩
  refine ks_wpAny_call_super (XK _ _ hC) rfl ho rfl (fun c z => nomatch z) (PySem.W.looks_mroIn XK T.me) (fun h' e1 k1' => ?_)
  have I1 : Inv X pins σ H ⟨h', g, d, t, os⟩ := I.kept (t' := t) k1'
  have X1 := I1.kIn
  have ho1 := k1' _ _ ho
  have IA : PySem.W.InstAt h' a _ C none := ⟨ho1, rfl, rfl, trivial⟩
  refine PySem.W.kxs_getMethod PySem.W.kxs_ValueError e1 (PySem.W.looks_opaque X1 T.opq) (l₀ := .ref C :: bm) ?_ rfl X1 ?_ (IA.type.andThen (PySem.W.looks_subIn X1 T.isV)) (PySem.W.ks_ne X1 IA hcls) (by decide) ?_
  · exact fun A Q E s k q => wpAny_bind ((PySem.W.looks_clsIn X1 hcls) A _ E s k (wpAny_pure q))
  · have q1 := T.sup
    unfold PySem.W.ks_superIn at q1
    rw [hcls] at q1
    exact q1
  have I2 : Inv X pins σ H ⟨h'.push (PySem.W.kxs_mw "ValueError.__init__" a), g, d, t + 1, os⟩ := I1.kept (t' := t + 1) (fun b o z => Heap.get?_push_of_some _ z)
  have hu2 : (h'.push (PySem.W.kxs_mw "ValueError.__init__" a)).get? h'.objs.size = some (PySem.W.kxs_mw "ValueError.__init__" a) := Heap.get?_push_size _ rfl
  have hHu : H h'.objs.size = none := I1.hok.fresh (Nat.le_refl _)
  have J2 : Inv X ((h'.objs.size, PySem.W.kxs_mw "ValueError.__init__" a) :: pins) σ H ⟨h'.push (PySem.W.kxs_mw "ValueError.__init__" a), g, d, t + 1, os⟩ := by
    refine I2.pins_of fun p hp => ?_
    rcases List.mem_cons.mp hp with rfl | hp
    · exact ⟨hu2, hHu, Nat.ne_of_gt I1.lt, I1.nofs (Nat.le_refl _), fun v z => nomatch z⟩
    · exact I2.pin p (List.mem_append_right _ hp)
  have key : wpAny (model X.prog X.w) X.A (spliced (backTo cpos (starEach (e :: es) X.env))) (fun vs s₁ => PySem.W.KxsAt "ValueError.__init__" h'.objs.size a s₁.heap ∧ wpAny (model X.prog X.w) X.A (call (.ref h'.objs.size) vs) (fun _ => SP X pins D .next) X.xe s₁) X.xe ⟨h'.push (PySem.W.kxs_mw "ValueError.__init__" a), g, d, t + 1, os⟩ := by
    refine thn (ha.run cpos _ _ σ H _ J2 q) fun us s3 ⟨vs3, H1, I3, rv, hvl, ea1, qn⟩ => ?_
    have hu3 := (I3.pin (h'.objs.size, PySem.W.kxs_mw "ValueError.__init__" a) (List.mem_append_right _ List.mem_cons_self)).1
    refine ⟨hu3, ?_⟩
    have J3 : Inv X pins σ H1 s3 := I3.pins_of fun p hp => I3.pin p (List.mem_append_right _ (List.mem_cons_of_mem _ hp))
    obtain ⟨t2, ho3⟩ := exo_at J3.hok ea1
    have hus : us.length ≤ sizeLine := by
      rw [← Paired.length rv, sizeLine_eq]; omega
    have hC3 := J3.kIn _ _ hC
    obtain ⟨h3, g3, d3, tk3, os3⟩ := s3
    refine wpAny_call (codeAny_of_tree ?_)
    show wpAny _ X.A.in1 (callAny (.ref h'.objs.size) ⟨us, []⟩) _ _ _
    simp only [callAny]
    refine wpAny_bind (wpAny_load hu3 ?_)
    simp only [PySem.W.kxs_mw, show (Value.type "method-wrapper" == Value.type "method" || Value.type "method-wrapper" == Value.type "builtin_function_or_method" || Value.type "method-wrapper" == Value.type "method-wrapper") = true by decide, if_true]
    refine PySem.W.KFB.if_so (by decide) ?_
    refine wpAny_bind (PySem.W.check_bound_init F.excBase_ValueError.toExcCallFacts hC3 ho3 rfl ?_)
    refine wpAny_bind (wpAny_pure (wpAny_pure ?_))
    refine ⟨plainId_quiet F.excBase_ValueError.init.plain _, codeAny_builtin F.excBase_ValueError.initEntry ?_⟩
    refine PySem.W.exc_init_tree (cls := .ref C) (t0 := t2) (dv := none) (c2 := .none) (c3 := .none) (b4 := .bool false) ho3 hus fun h4 k4 hx4 ht4 => ?_
    have J := J3.write (t' := tk3) (x := a) (e := a) (o := exo a C none) (h' := h4) (by rw [ea1]; exact True.intro) (.inl rfl) k4 ⟨_, hx4⟩ (exo_ok hx4)
    have eu : upd H1 a (exo a C none) = H1 := by
      funext b
      by_cases hb : b = a
      · rw [hb, upd_same, ea1]
      · rw [upd_ne hb]
    rw [eu] at J
    exact ⟨σ, H1, J, qn⟩
  rw [hst] at key ⊢
  refine PySem.W.kxs_callWith (i := "ValueError.__init__") (x := a) (by show (false || (backTo cpos (starEach es X.env)).any (·.1)) = false; rw [hpl]; rfl) ?_
  exact PySem.Calls.evalArgs_plain key
end
end My

set_option Elab.async false
set_option linter.all false
set_option maxRecDepth 100000
set_option maxHeartbeats 4000000
/-! ### own errors: made, raised, caught, asked -/
namespace My
open PySem L2 NdefX
/-- __init__ of an error with one field: what it promises -/
def spErr1 (C : Addr) (f : Str) (P : V → Prop) : Sp := fun vs H Q _ => ∃ (a : Addr) (v : V), vs = [.ref a, v] ∧ P v ∧ H a = some (exo a C none) ∧ ∀ dx, H dx = none → dx ≠ a → Q .non (upd (upd H dx (exd dx [(f, v)])) a (exo a C (some dx)))
/-- .. with two fields -/
def spErr2 (C : Addr) (f g : Str) (P : V → V → Prop) : Sp := fun vs H Q _ => ∃ (a : Addr) (v u : V), vs = [.ref a, v, u] ∧ P v u ∧ H a = some (exo a C none) ∧ ∀ dx, H dx = none → dx ≠ a → Q .non (upd (upd (upd H dx (exd dx [(f, v)])) a (exo a C (some dx))) dx (exd dx [(g, u), (f, v)]))
theorem err_kp {H1 H2 : Hp} {a dx : Addr} {fs : List (Str × V)} (na : H1 a = none) (nd : H1 dx = none) (k : ∀ b, b ≠ a → b ≠ dx → H2 b = H1 b) : Kp [] H1 (upd (del H2 a) dx (.xd fs)) := fun b o _ e => by
  have h1 : b ≠ a := ne_of_none e na
  have h2 : b ≠ dx := ne_of_none e nd
  rw [upd_ne h2, del_ne h1, k b h1 h2]
  exact e
theorem err1_made {C : Addr} {f : Str} {P : V → Prop} {v : V} {H1 : Hp} {Q : XK} (hp : P v) (q : ∀ d H', H1 d = none → H' d = some (.xd [(f, v)]) → Kp [] H1 H' → Q (.ref C) (some d) H') :
    ([v] : List V).length ≤ 1000 ∧ ∀ a, H1 a = none → spErr1 C f P (.ref a :: ([v] ++ [])) (upd H1 a (exo a C none)) (fun v H2 => v = .non ∧ ∃ (d : Addr) (fs : List (Str × V)), H2 a = some (exo a C (some d)) ∧ H2 d = some (exd d fs) ∧ H1 d = none ∧ Q (.ref C) (some d) (upd (del H2 a) d (.xd fs))) (fun _ _ _ => False) := by
  refine ⟨by show 1 ≤ 1000; decide, fun a na => ⟨a, v, rfl, hp, upd_same, fun dx ndx hne => ?_⟩⟩
  rw [upd_ne hne] at ndx
  refine ⟨rfl, dx, _, upd_same, by rw [upd_ne hne]; exact upd_same, ndx, q dx _ ndx upd_same (err_kp na ndx fun b h1 h2 => ?_)⟩
  rw [upd_ne h1, upd_ne h2, upd_ne h1]
theorem err2_made {C : Addr} {f g : Str} {P : V → V → Prop} {v u : V} {H1 : Hp} {Q : XK} (hp : P v u) (q : ∀ d H', H1 d = none → H' d = some (.xd [(g, u), (f, v)]) → Kp [] H1 H' → Q (.ref C) (some d) H') :
    ([v, u] : List V).length ≤ 1000 ∧ ∀ a, H1 a = none → spErr2 C f g P (.ref a :: ([v, u] ++ [])) (upd H1 a (exo a C none)) (fun v H2 => v = .non ∧ ∃ (d : Addr) (fs : List (Str × V)), H2 a = some (exo a C (some d)) ∧ H2 d = some (exd d fs) ∧ H1 d = none ∧ Q (.ref C) (some d) (upd (del H2 a) d (.xd fs))) (fun _ _ _ => False) := by
  refine ⟨by show 2 ≤ 1000; decide, fun a na => ⟨a, v, u, rfl, hp, upd_same, fun dx ndx hne => ?_⟩⟩
  rw [upd_ne hne] at ndx
  refine ⟨rfl, dx, _, by rw [upd_ne hne.symm]; exact upd_same, upd_same, ndx, q dx _ ndx upd_same (err_kp na ndx fun b h1 h2 => ?_)⟩
  rw [upd_ne h2, upd_ne h1, upd_ne h2, upd_ne h1]
/-- what the written part says of an error class that is caught and asked -/
structure KitC (K : PySem.W.Frag) (C : Addr) : Prop where
  cl : (PySem.W.clsIn K C).isSome = true
  ga : PySem.W.findIn K (.ref C) "__getattribute__" = some (some (.builtin "BaseException.__getattribute__"))
  gg : PySem.W.findIn K (.ref C) "__getattr__" = some none
  bx : PySem.W.subIn K (.ref C) (.type "BaseException") = some true
  hc : PySem.W.findIn K (.ref C) "__class__" = some (some (.builtin "object.__class__"))
  hn : PySem.W.specialIn K (.builtin "object.__class__") "__get__" = some (some (.builtin "getset_descriptor.__get__"))
  ht : PySem.W.takesIn K (.builtin "object.__class__") = some true
  ob : PySem.W.mroIn K C (.type "object") = some true
/-- isinstance(e, c), e the error that the suite holds -/
def rIsX (K : PySem.W.Frag) (a : Addr) (cls : Value) (d : Option Addr) : List V → Hp → VK → Prop := fun xs H Q => ∃ (c : V) (cv : Value) (b : Bool) (D dd : Addr) (fs : List (Str × V)), xs = [.ref a, c] ∧ (∀ u, RelV c u → u = cv) ∧ cls = .ref D ∧ d = some dd ∧ H dd = some (.xd fs) ∧ KitC K D ∧ PySem.W.kitOne K (.ref D) cv = some b ∧ Q (.bl b) H
/-- .. a tuple of classes that was just laid -/
def rIsXT (K : PySem.W.Frag) (a : Addr) (cls : Value) (d : Option Addr) : List V → Hp → VK → Prop := fun xs H Q => ∃ (tp : Addr) (cs : List V) (us : List Value) (b : Bool) (D dd : Addr) (fs : List (Str × V)), xs = [.ref a, .ref tp] ∧ H tp = some (.tup cs) ∧ Paired ClsV cs us ∧ cls = .ref D ∧ d = some dd ∧ H dd = some (.xd fs) ∧ KitC K D ∧ PySem.W.kitAny K (.ref D) us = some b ∧ Q (.bl b) H
section
variable {X : Cx} {a : Addr} {oe : Obj} {cls : Value} {d : Option Addr} {pn : List (Addr × Obj)}
theorem inst_x {pins : List (Addr × Obj)} {s : Shared} {σ : L2.St} {H : Hp} {D dd : Addr} {fs : List (Str × V)} (I : Inv (X.suite a ((a, oe) :: pn)) pins σ H s) (hz : Zc (.ref D) (some dd) oe) (hf : ∃ vs, oe.data = .fields vs) (e : H dd = some (.xd fs)) : ∃ od, PySem.W.InstAt s.heap a oe D (some od) := by
  obtain ⟨ha, _⟩ := I.pin (a, oe) (List.mem_append_left _ List.mem_cons_self)
  obtain ⟨vs, hv⟩ := hf
  obtain ⟨mA, hns, _⟩ := (show ObjOk X.prog X.w H s.heap dd (.xd fs) from I.hok dd _ e)
  obtain ⟨od, ho, _⟩ := lookIn_ns hns
  exact ⟨od, ha, hz.1, by unfold PySem.W.notCls; rw [hv] <;> rfl, by rw [hz.2]; exact ho⟩
theorem call_isX (hz : Zc cls d oe) (hf : ∃ vs, oe.data = .fields vs) : CallR (X.suite a ((a, oe) :: pn)) (.builtin "isinstance") (rIsX X.K a cls d) := by
  intro pins s σ H xs us Q I r h
  obtain ⟨c, cv, b, D, dd, fs, rfl, hcv, rfl, rfl, ed, T, e, q⟩ := h
  obtain ⟨u1, u2, rfl, r1, r2⟩ := vals2 r
  cases (show u1 = Value.ref a from r1)
  cases hcv _ r2
  obtain ⟨od, J⟩ := inst_x I hz hf ed
  exact PySem.W.kia_one (PySem.W.kitx_exc T.cl T.ga T.gg T.bx T.hc T.hn T.ht T.ob) I.kIn J e (fun z => nomatch z) fun tk => ⟨.bl b, H, I.tok tk, rfl, q⟩
theorem call_isXT (hz : Zc cls d oe) (hf : ∃ vs, oe.data = .fields vs) : CallR (X.suite a ((a, oe) :: pn)) (.builtin "isinstance") (rIsXT X.K a cls d) := by
  intro pins s σ H xs us Q I r h
  obtain ⟨tp, cs, ws, b, D, dd, fs, rfl, hT, k, rfl, rfl, ed, T, e, q⟩ := h
  obtain ⟨u1, u2, rfl, r1, r2⟩ := vals2 r
  cases (show u1 = Value.ref a from r1)
  cases (show u2 = Value.ref tp from r2)
  obtain ⟨od, J⟩ := inst_x I hz hf ed
  obtain ⟨_, its, rv, o, h1, h2, n, h3⟩ := (show ObjOk X.prog X.w H s.heap tp (.tup cs) from I.hok tp _ hT)
  cases ClsV.all k rv
  obtain ⟨oc, od2, dt, sl⟩ := o
  simp only at h2 h3
  subst h2 h3
  exact PySem.W.kia_tup (PySem.W.kitx_exc T.cl T.ga T.gg T.bx T.hc T.hn T.ht T.ob) I.kIn J h1 e (fun z => nomatch z) fun tk => ⟨.bl b, H, I.tok tk, rfl, q⟩
end
end My

set_option Elab.async false
set_option linter.all false
set_option maxRecDepth 100000
set_option maxHeartbeats 4000000
/-! ### operators, in, len, list of instances of an own class that define them -/
namespace My
open PySem PySem.Spec PyProof.Rows L2
section
variable {X : Cx} {CX : CXT} {pins : List (Addr × Obj)} {σ : L2.St} {H : Hp} {s : Shared} {C g a : Addr} {fd : FuncData} {ps : List Str} {sp : Sp} {E : XK} {k : Nat} {A1 : Around}
theorem inst_of {dx : Addr} {fs : List (Str × V)} (I : Inv X pins σ H s) (ha : H a = some (.ins C dx fs)) : ∃ ox od, PySem.W.InstAt s.heap a ox C (some od) := by
  obtain ⟨mA, J, _⟩ := ins_get I.hok ha
  obtain ⟨od, J', _⟩ := J.look
  exact ⟨_, od, J'⟩
theorem env_under (sb : Sub X k A1) (I : Inv X pins σ H s) : Env0 X.prog X.w X.K X.mg X.base A1 X.stack s H := by
  obtain ⟨f1, f2, f3, f4, f5, f6, f7, f8⟩ := I.env0
  exact ⟨(sb.fr).trans f1, f2, f3, f4, f5, f6, f7, f8⟩
/-- a def of the class runs somewhere below the body -/
theorem run_under {Q : VK} {us : List Value} {vs : List V} (F : FnOk X.prog X.w X.K X.mg X.base CX k g fd ps sp) (sb : Sub X k A1) (hb : Binds X.K fd ps []) (hx : Passes CX X E) (I : Inv X pins σ H s) (r : Vals vs us) (h : sp vs H Q E) :
    wpAny (model X.prog X.w) A1 (call (.ref g) us) (EP X pins σ Q) X.xe s := by
  have len := F.len _ _ _ _ h
  have bnd := hb s us I.kIn (by rw [List.append_nil, ← r.length]; exact len)
  rw [List.append_nil] at bnd
  refine wpAny_call (codeAny_mono (F.run A1 X.stack s H ⟨us, []⟩ us vs Q E sb.room (env_under sb I) bnd r h) ?_)
  rintro (e | fl) s' z
  · exact hx pins σ H s e s' I z
  · cases fl <;> first | exact I.after z | exact z.elim
/-- x op y, both instances of the class at C -/
def rBinO (C : Addr) (sp : Sp) (E : XK) : R2 := fun x y H Q => ∃ (a dx : Addr) (fs : List (Str × V)) (b dy : Addr) (gs : List (Str × V)), x = .ref a ∧ y = .ref b ∧ H a = some (.ins C dx fs) ∧ H b = some (.ins C dy gs) ∧ sp [.ref a, .ref b] H Q E
/-- what stands of an operator's def -/
structure BinC (K : PySem.W.Frag) (C g : Addr) (op : Operator) : Prop where
  one : PySem.W.selfFirst K C = true
  at_ : PySem.W.findIn K (.ref C) (PySem.dunder op.info.2) = some (some (.ref g))
  fn : PySem.W.isFn K (.ref g) = true
theorem sub_here (hr : Room k X.A) : Sub X k X.A := ⟨hr, rfl⟩
theorem op_binO {op : Operator} (c : BinC X.K C g op) (F : FnOk X.prog X.w X.K X.mg X.base CX k g fd ps sp) (hb : Binds X.K fd ps []) (hr : Room k X.A) (hx : Passes CX X E) : OpR X (binaryOp op) (rBinO C sp E) := by
  rintro pins s σ H x y v u Q I rx ry ⟨a, dx, fs, b, dy, gs, rfl, rfl, ha, hb', q⟩
  cases rx
  cases ry
  obtain ⟨ox, od, J⟩ := inst_of I ha
  obtain ⟨oy, ody, J'⟩ := inst_of I hb'
  obtain ⟨m, hF⟩ := I.fr
  refine PySem.W.binop_K hF I.ok.mod.kin J J'.type c.one c.at_ c.fn ?_
  refine thn (run_under (us := [.ref a, .ref b]) (vs := [.ref a, .ref b]) F (sub_here hr) hb hx I (.cons rfl (.cons rfl .nil)) q) ?_
  rintro w s' ⟨z, H', I', rz, qz⟩
  exact SlX.cmpback rz ⟨z, H', I', rz, qz⟩
/-- y in x, x an instance of the class at C: its __contains__ gives a bool -/
def rInO (C : Addr) (sp : Sp) (E : XK) (neg : Bool) : R2 := fun y x H Q => ∃ (a dx : Addr) (fs : List (Str × V)), x = .ref a ∧ H a = some (.ins C dx fs) ∧ sp [.ref a, y] H (fun v H' => ∃ b, v = .bl b ∧ Q (.bl (if neg then !b else b)) H') E
structure InC (K : PySem.W.Frag) (C g : Addr) : Prop where
  at_ : PySem.W.findIn K (.ref C) "__contains__" = some (some (.ref g))
  fn : PySem.W.isFn K (.ref g) = true
theorem op_inO (c : InC X.K C g) (F : FnOk X.prog X.w X.K X.mg X.base CX k g fd ps sp) (hb : Binds X.K fd ps []) (hr : Room k X.A) (hx : Passes CX X E) : OpR X (compareOp .In) (rInO C sp E false) := by
  rintro pins s σ H y x u v Q I ry rx ⟨a, dx, fs, rfl, ha, q⟩
  cases rx
  obtain ⟨ox, od, J⟩ := inst_of I ha
  obtain ⟨m, hF⟩ := I.fr
  refine PySem.W.in_K hF I.ok.mod.kin J c.at_ c.fn ?_
  refine thn (run_under (us := [.ref a, u]) (vs := [.ref a, y]) F (sub_here hr) hb hx I (.cons rfl (.cons ry .nil)) q) ?_
  rintro w s' ⟨z, H', I', rz, b, rfl, qz⟩
  cases rz
  exact wpAny_pure ⟨.bl b, H', I', rfl, qz⟩
theorem op_notInO (c : InC X.K C g) (F : FnOk X.prog X.w X.K X.mg X.base CX k g fd ps sp) (hb : Binds X.K fd ps []) (hr : Room k X.A) (hx : Passes CX X E) : OpR X (compareOp .NotIn) (rInO C sp E true) := by
  rintro pins s σ H y x u v Q I ry rx ⟨a, dx, fs, rfl, ha, q⟩
  cases rx
  obtain ⟨ox, od, J⟩ := inst_of I ha
  obtain ⟨m, hF⟩ := I.fr
  refine PySem.W.notIn_K hF I.ok.mod.kin J c.at_ c.fn ?_
  refine thn (run_under (us := [.ref a, u]) (vs := [.ref a, y]) F (sub_here hr) hb hx I (.cons rfl (.cons ry .nil)) q) ?_
  rintro w s' ⟨z, H', I', rz, b, rfl, qz⟩
  cases rz
  exact wpAny_pure ⟨.bl (!b), H', I', rfl, qz⟩
/-- len(x) -/
structure LenC (K : PySem.W.Frag) (C g : Addr) : Prop where
  at_ : PySem.W.findIn K (.ref C) "__len__" = some (some (.ref g))
  fn : PySem.W.isFn K (.ref g) = true
theorem len_under {R : Value → Shared → Prop} {Q1 : Nat → Hp → Prop} {dx : Addr} {fs : List (Str × V)} (c : LenC X.K C g) (F : FnOk X.prog X.w X.K X.mg X.base CX k g fd ps sp) (hb : Binds X.K fd ps []) (sb : Sub X (k + 1) A1) (hx : Passes CX X E) (I : Inv X pins σ H s)
    (ha : H a = some (.ins C dx fs)) (h : sp [.ref a] H (fun v H' => ∃ n : Nat, v = .int n ∧ n ≤ sizeLine ∧ Q1 n H') E) (hR : ∀ (n : Nat) H' s' t, n ≤ sizeLine → Inv X pins σ H' s' → Q1 n H' → R (.int n t) s') : wpAny (model X.prog X.w) A1 (call (.builtin "len") [.ref a]) R X.xe s := by
  obtain ⟨ox, od, J⟩ := inst_of I ha
  refine Calls.call_function_entry kind_len plain_len entry_len (args_len1 _) ?_
  unfold Builtin.«len»
  refine wpAny_bind (m := oneArg "len" _) (wpAny_pure ?_)
  refine wpAny_bind (PySem.W.special_fn I.kIn J c.at_ (beq_iff_eq.mp c.fn) ?_)
  refine thn (run_under (us := [.ref a]) (vs := [.ref a]) F sb.in1 hb hx I (.cons rfl .nil) h) ?_
  rintro w s' ⟨z, H', I', rz, n, rfl, hn, hq⟩
  obtain ⟨t, rfl⟩ := rz
  have h63 : ((n : Int)) < 2 ^ 63 := by
    rw [sizeLine_eq] at hn
    omega
  refine wpAny_bind (wpAny_holding (wpAny_pure ?_))
  refine wpAny_bind (wpAny_letGo ?_)
  refine wpAny_ite_false (decide_eq_false (show ¬ ((n : Int) < 0) by omega)) ?_
  refine wpAny_ite_false (decide_eq_false (show ¬ ((n : Int) ≥ 2 ^ 63) by omega)) ?_
  exact wpAny_bind (wpAny_mkInt (wpAny_pure ⟨_, rfl, hR n H' _ _ hn (I'.tok _) hq⟩))
def rLenO (C : Addr) (sp : Sp) (E : XK) : List V → Hp → VK → Prop := fun xs H Q => ∃ (a dx : Addr) (fs : List (Str × V)), xs = [.ref a] ∧ H a = some (.ins C dx fs) ∧ sp [.ref a] H (fun v H' => ∃ n : Nat, v = .int n ∧ n ≤ sizeLine ∧ Q (.int n) H') E
theorem call_lenO (c : LenC X.K C g) (F : FnOk X.prog X.w X.K X.mg X.base CX k g fd ps sp) (hb : Binds X.K fd ps []) (hr : Room (k + 1) X.A) (hx : Passes CX X E) : CallR X (.builtin "len") (rLenO C sp E) := by
  rintro pins s σ H xs us Q I r ⟨a, dx, fs, rfl, ha, q⟩
  obtain ⟨u, rfl, ru⟩ := r.one
  cases ru
  exact len_under (Q1 := fun n H' => Q (.int n) H') c F hb (sub_here hr) hx I ha q fun n H' s' t _ I' hq => ⟨.int n, H', I', ⟨t, rfl⟩, hq⟩
/-- something that is no more looked at -/
def junk (q : Addr) : HO := .ext fun h => ∃ o, h.get? q = some o
theorem junk_ok {P : Program} {w : World} {H : Hp} {h : Heap} {q : Addr} {o : Obj} (e : h.get? q = some o) : ObjOk P w H h q (junk q) := ⟨⟨_, e⟩, ⟨_, e⟩, fun _ _ ⟨u, z⟩ k => ⟨u, k _ z⟩⟩
/-- the class's __iter__ gives iter(l) of a list l, and it has a __len__ -/
structure IterC (K : PySem.W.Frag) (C gi gl : Addr) : Prop where
  it : PySem.W.findIn K (.ref C) "__iter__" = some (some (.ref gi))
  itF : PySem.W.isFn K (.ref gi) = true
  ln : LenC K C gl
/-- list(x) -/
def rListO (K : PySem.W.Frag) (C : Addr) (si sl : Sp) (E : XK) : List V → Hp → VK → Prop := fun xs H Q => ∃ (a dx : Addr) (fs : List (Str × V)), xs = [.ref a] ∧ H a = some (.ins C dx fs) ∧ ∀ q, H q = none →
  si [.ref a] (upd H q (.lst [])) (fun v H1 => ∃ (l it : Addr) (zs : List V), v = .ref it ∧ H1 a = some (.ins C dx fs) ∧ H1 it = some (ItO l it 0) ∧ SqL K H1 l zs ∧ l ≠ q ∧ l ≠ it ∧ H1 q = some (.lst []) ∧
    sl [.ref a] H1 (fun v H2 => ∃ n : Nat, v = .int n ∧ n ≤ sizeLine ∧ H2 it = some (ItO l it 0) ∧ SqL K H2 l zs ∧ H2 q = some (.lst []) ∧ Q (.ref q) (upd (upd H2 it (junk it)) q (.lst zs))) E) E
/-- .. where nothing is raised -/
theorem run_under0 {Q : VK} {us : List Value} {vs : List V} {Ex : Value → Shared → Prop} (F : FnOk X.prog X.w X.K X.mg X.base CX0 k g fd ps sp) (sb : Sub X k A1) (hb : Binds X.K fd ps []) (I : Inv X pins σ H s) (r : Vals vs us) (h : sp vs H Q E) :
    wpAny (model X.prog X.w) A1 (call (.ref g) us) (EP X pins σ Q) Ex s := by
  have len := F.len _ _ _ _ h
  have bnd := hb s us I.kIn (by rw [List.append_nil, ← r.length]; exact len)
  rw [List.append_nil] at bnd
  refine wpAny_call (codeAny_mono (F.run A1 X.stack s H ⟨us, []⟩ us vs Q E sb.room (env_under sb I) bnd r h) ?_)
  rintro (e | fl) s' z
  · exact False.elim z
  · cases fl <;> first | exact I.after z | exact z.elim
theorem len_under0 {R : Value → Shared → Prop} {Ex : Value → Shared → Prop} {Q1 : Nat → Hp → Prop} {dx : Addr} {fs : List (Str × V)} (c : LenC X.K C g) (F : FnOk X.prog X.w X.K X.mg X.base CX0 k g fd ps sp) (hb : Binds X.K fd ps []) (sb : Sub X (k + 1) A1) (I : Inv X pins σ H s)
    (ha : H a = some (.ins C dx fs)) (h : sp [.ref a] H (fun v H' => ∃ n : Nat, v = .int n ∧ n ≤ sizeLine ∧ Q1 n H') E) (hR : ∀ (n : Nat) H' s' t, n ≤ sizeLine → Inv X pins σ H' s' → Q1 n H' → R (.int n t) s') : wpAny (model X.prog X.w) A1 (call (.builtin "len") [.ref a]) R Ex s := by
  obtain ⟨ox, od, J⟩ := inst_of I ha
  refine Calls.call_function_entry kind_len plain_len entry_len (args_len1 _) ?_
  unfold Builtin.«len»
  refine wpAny_bind (m := oneArg "len" _) (wpAny_pure ?_)
  refine wpAny_bind (PySem.W.special_fn I.kIn J c.at_ (beq_iff_eq.mp c.fn) ?_)
  refine thn (run_under0 (us := [.ref a]) (vs := [.ref a]) F sb.in1 hb I (.cons rfl .nil) h) ?_
  rintro w s' ⟨z, H', I', rz, n, rfl, hn, hq⟩
  obtain ⟨t, rfl⟩ := rz
  have h63 : ((n : Int)) < 2 ^ 63 := by
    rw [sizeLine_eq] at hn
    omega
  refine wpAny_bind (wpAny_holding (wpAny_pure ?_))
  refine wpAny_bind (wpAny_letGo ?_)
  refine wpAny_ite_false (decide_eq_false (show ¬ ((n : Int) < 0) by omega)) ?_
  refine wpAny_ite_false (decide_eq_false (show ¬ ((n : Int) ≥ 2 ^ 63) by omega)) ?_
  exact wpAny_bind (wpAny_mkInt (wpAny_pure ⟨_, rfl, hR n H' _ _ hn (I'.tok _) hq⟩))
theorem hint_own {Q : Bool → Shared → Prop} {Ex : Value → Shared → Prop} {Q1 : Nat → Hp → Prop} {dx : Addr} {fs : List (Str × V)} (c : LenC X.K C g) (F : FnOk X.prog X.w X.K X.mg X.base CX0 k g fd ps sp) (hb : Binds X.K fd ps []) (sb : Sub X (k + 1) A1) (I : Inv X pins σ H s)
    (ha : H a = some (.ins C dx fs)) (h : sp [.ref a] H (fun v H' => ∃ n : Nat, v = .int n ∧ n ≤ sizeLine ∧ Q1 n H') E) (hR : ∀ b n H' s', Inv X pins σ H' s' → Q1 n H' → Q b s') : wpAny (model X.prog X.w) A1 (Builtin.List.listLengthHint (.ref a)) Q Ex s := by
  obtain ⟨ox, od, J⟩ := inst_of I ha
  unfold Builtin.List.listLengthHint
  refine wpAny_bind (wpAny_bind (J.type.here ((PySem.W.looks_findIn I.kIn c.at_).here ?_)))
  refine PySem.W.KFB.if_not rfl ?_
  refine PySem.W.KFB.if_so rfl ?_
  refine wpAny_bind (wpAny_rule ?_)
  refine wpAny_bind (wpAny_attempt (len_under0 c F hb sb I ha h ?_))
  intro n H' s' t hn I' hq
  show wpAny _ _ (pure (some (n : Int)) >>= _) _ _ _
  refine wpAny_bind (wpAny_pure ?_)
  have hl : Builtin.List.listTooLong ((n : Int).toNat) = false := by
    rw [Int.toNat_natCast]; exact notLongL hn
  refine PySem.W.KFB.if_not hl ?_
  exact wpAny_pure (hR _ n H' s' I' hq)
/-! ### the list's iterator, drawn to its end -/
theorem py_item {it l : Addr} {i : Nat} {items : Array Value} {v : Value} {prog : Program} {w : World} {Q : Option Value → Shared → Prop} {Ex : Value → Shared → Prop} (ho : s.heap.get? it = some (GNX.itObj l i)) (hl : s.heap.IsList l items) (hv : items[i]? = some v)
    (hQ : ∀ h', h'.get? it = some (GNX.itObj l (i + 1)) → (∀ b o, b ≠ it → s.heap.get? b = some o → h'.get? b = some o) → Q (some v) { s with heap := h' }) : wpAny (model prog w) A1 (pyNext (.ref it)) Q Ex s := by
  have hT : s.TypeIs (.ref it) "list_iterator" := ⟨_, ho, rfl⟩
  unfold pyNext
  refine wpAny_bind (wpAny_attempt (wpAny_callSpecial?_slot (name := Str.ofString "__next__") hT slot_listiter_next (wpAny_call_entry slot_listiter_next hT entry_listiter_next (GNX.next_item ho hl hv ?_) (args_listiter_next _))))
  intro h' e sb
  exact wpAny_pure (hQ h' e fun b o hb eb => (sb.2 b hb).trans eb)
theorem py_end {it l : Addr} {i : Nat} {items : Array Value} {prog : Program} {w : World} {Q : Option Value → Shared → Prop} {Ex : Value → Shared → Prop} (hh : A1.handled = none) (ho : s.heap.get? it = some (GNX.itObj l i)) (hl : s.heap.IsList l items) (hv : items[i]? = none)
    (hQ : ∀ h', h'.get? it = some (GNX.itEnd i) → (∀ b o, b ≠ it → s.heap.get? b = some o → h'.get? b = some o) → Q none { s with heap := h' }) : wpAny (model prog w) A1 (pyNext (.ref it)) Q Ex s := by
  have hT : s.TypeIs (.ref it) "list_iterator" := ⟨_, ho, rfl⟩
  unfold pyNext
  refine wpAny_bind (wpAny_attempt (wpAny_callSpecial?_slot (name := Str.ofString "__next__") hT slot_listiter_next (wpAny_call_entry slot_listiter_next hT entry_listiter_next (GNX.next_end hh ho hl hv ?_) (args_listiter_next _))))
  intro h1 h' e vs e1 sb k1 ne he hv'
  refine wpAny_bind (wpAny_isInstance (T := "StopIteration") (b := true) ⟨_, he, rfl⟩ PySem.isSubtype_stop ?_)
  exact wpAny_pure (hQ h' (k1 _ _ e1) fun b o hb eb => k1 _ _ ((sb.2 b hb).trans eb))
theorem same_upd {H : Hp} {q : Addr} {o : HO} (e : H q = some o) : upd H q o = H := by
  funext b
  by_cases z : b = q
  · rw [z, upd_same, e]
  · rw [upd_ne z]
theorem take_next' {α : Type} {xs : List α} {i : Nat} {x : α} (h : xs[i]? = some x) : xs.take (i + 1) = xs.take i ++ [x] := by
  rw [List.take_add_one, h]; rfl
/-- the loop that fills the list at q -/
theorem drain {q l it : Addr} {zs : List V} {F : Hp} {R : Result → Shared → Prop} (hh : A1.in1.handled = none) (lit : l ≠ it) (lq : l ≠ q) (hne : it ≠ q) (hdone : ∀ s', Inv X pins σ F s' → R (.ok (.ret .none)) s') :
    ∀ (n i : Nat) (H1 : Hp) (s1 : Shared), zs.length - i = n → i ≤ zs.length → Inv X pins σ H1 s1 → H1 it = some (ItO l it i) → SqL X.K H1 l zs → H1 q = some (.lst (zs.take i)) → upd (upd H1 it (junk it)) q (.lst zs) = F →
      codeAny (model X.prog X.w) A1 (.builtin "list.extend.loop" ⟨[.ref q, .ref it, .none], []⟩) R s1 := by
  intro n
  induction n with
  | zero =>
    intro i H1 s1 hn hi I hit hl hq hF
    obtain ⟨its, rv, pl, hz⟩ := I.list hl
    have hlen := rv.length
    have nope : its.toArray[i]? = none := by
      rw [List.getElem?_toArray]
      exact List.getElem?_eq_none (by omega)
    refine codeAny_builtin PySem.F.entry_extend_loop ?_
    rw [Around.under_plainId PySem.F.plain_extend_loop _]
    refine wpAny_bind (m := pyNext (.ref it)) (py_end hh (itO_get I hit) pl.isList nope fun h' he hk => ?_)
    have J : Inv X pins σ (upd H1 it (junk it)) { s1 with heap := h' } := I.write (t' := s1.toks) (x := it) (e := it) (by rw [hit]; exact True.intro) (.inl rfl) (fun b u hb e => hk b u hb e) ⟨_, he⟩ (junk_ok he)
    have e : upd H1 it (junk it) = F := by
      rw [← hF]
      refine (same_upd ?_).symm
      rw [upd_ne hne.symm, hq, List.take_of_length_le (by omega)]
    rw [e] at J
    exact wpAny_pure (hdone _ J)
  | succ n ih =>
    intro i H1 s1 hn hi I hit hl hq hF
    obtain ⟨its, rv, pl, hz⟩ := I.list hl
    have hlen := rv.length
    have hx : zs[i]? = some zs[i] := List.getElem?_eq_getElem (by omega)
    obtain ⟨u, hu, ru⟩ := rv.get hx
    refine codeAny_builtin PySem.F.entry_extend_loop ?_
    rw [Around.under_plainId PySem.F.plain_extend_loop _]
    refine wpAny_bind (m := pyNext (.ref it)) (py_item (itO_get I hit) pl.isList (v := u) (by simpa using hu) fun h' he hk => ?_)
    have J : Inv X pins σ (upd H1 it (ItO l it (i + 1))) { s1 with heap := h' } := I.write (t' := s1.toks) (x := it) (e := it) (by rw [hit]; exact True.intro) (.inl rfl) (fun b u hb e => hk b u hb e) ⟨_, he⟩ (itO_ok he)
    have hq' : (upd H1 it (ItO l it (i + 1))) q = some (.lst (zs.take i)) := by rw [upd_ne hne.symm]; exact hq
    obtain ⟨_, ys, c, r2, hl2, e2⟩ := J.lstM hq'
    have hy : ys.length = i := by rw [← hl2, List.length_take]; omega
    refine wpAny_bind (m := updateSeq q (·.push u)) (wpAny_updateSeq e2 rfl (wpAny_pure ⟨plainId_quiet PySem.F.plain_extend_loop _, ?_⟩) (by rw [List.size_toArray]; omega) (by rw [Array.size_push, List.size_toArray]; omega))
    have J2 := J.lset (f := (·.push u)) (its' := ys ++ [u]) (ys := zs.take (i + 1)) (t' := s1.toks) hq' e2 (by simp) (by rw [take_next' hx]; exact r2.append (.cons ru .nil)) (by rw [List.length_take]; omega)
    refine ih (i + 1) _ _ (by omega) (by omega) J2 ?_ ?_ upd_same ?_
    · rw [upd_ne hne]; exact upd_same
    · exact (((Kp.refl [it, q] H1).put (by simp)).put (by simp)).ls (by simp [lit, lq]) hl
    · rw [← hF]
      funext b
      by_cases z : b = q
      · rw [z, upd_same, upd_same]
      · rw [upd_ne z, upd_ne z]
        by_cases y : b = it
        · rw [y, upd_same, upd_same]
        · rw [upd_ne y, upd_ne y, upd_ne z, upd_ne y]
theorem call_listO {gi gl : Addr} {fdi fdl : FuncData} {psi psl : List Str} {si sl : Sp} {ki kl : Nat} (c : IterC X.K C gi gl) (Fi : FnOk X.prog X.w X.K X.mg X.base CX0 ki gi fdi psi si) (bi : Binds X.K fdi psi []) (Fl : FnOk X.prog X.w X.K X.mg X.base CX0 kl gl fdl psl sl) (bl : Binds X.K fdl psl [])
    (hr : Room (max ki (kl + 1) + 2) X.A) (hcalm : X.calm = true := by rfl) : CallR X (.type "list") (rListO X.K C si sl E) := by
  rintro pins s σ H xs us Q I rv ⟨a, dx, fs, rfl, ha, hq⟩
  obtain ⟨u, rfl, ru⟩ := rv.one
  cases ru
  have sb0 : Sub X (max ki (kl + 1)) X.A.in1.in1 := (sub_here hr).in1.in1
  have hh : X.A.handled = none := I.ok.hd hcalm
  refine callType_codes (Q₁ := fun obj s₁ => obj = .ref s.heap.objs.size ∧ s₁ = { s with heap := s.heap.push { cls := .type "list", data := .seq #[] } }) PySem.F.called_list (PySem.F.typeCall_list_1 _) PySem.F.entry_list_init (code_list_new _ ⟨rfl, rfl⟩) ?_
  rintro obj s₁ ⟨rfl, rfl⟩
  have hS : (s.heap.push { cls := .type "list", data := .seq #[] }).get? s.heap.objs.size = some { cls := .type "list", data := .seq #[] } := Heap.get?_push_size _ rfl
  refine ⟨⟨_, hS, rfl⟩, PySem.F.args_list_init_2 _ _, ?_⟩
  have fr : H s.heap.objs.size = none := I.hok.fresh (Nat.le_refl _)
  have todo := hq _ fr
  generalize hqq : s.heap.objs.size = q at *
  have I1 : Inv X pins σ (upd H q (.lst [])) { s with heap := s.heap.push { cls := .type "list", data := .seq #[] } } := by
    rw [← hqq]
    exact I.lnew (its := []) (t' := s.toks) .nil (Nat.zero_le _)
  show wpAny _ _ (Builtin.List.listItems (.ref q) >>= fun old => Builtin.List.listUpdate (.ref q) (fun _ => #[]) >>= fun _ => letGo old.toList.reverse >>= fun _ => Builtin.List.listExtendWith (.ref q) (.ref a) .none) _ _ _
  refine wpAny_bind ?_
  unfold Builtin.List.listItems
  refine wpAny_bind (wpAny_seqItems hS rfl (wpAny_pure ?_))
  refine wpAny_bind (m := updateSeq q fun _ => #[]) (wpAny_updateSeq hS rfl ?_)
  have I2 := I1.lset (f := fun _ => #[]) (its := []) (its' := []) (ys := []) (t' := s.toks) upd_same hS rfl .nil (Nat.zero_le _)
  rw [upd_upd] at I2
  refine wpAny_bind (wpAny_letGo ?_)
  have ha2 : upd H q (.lst []) a = some (.ins C dx fs) := by rw [upd_ne (ne_of_none ha fr)]; exact ha
  obtain ⟨ox, od, J⟩ := inst_of I2 ha2
  obtain ⟨m0, hF⟩ := I2.fr
  have naq : a ≠ q := ne_of_none ha fr
  unfold Builtin.List.listExtendWith
  refine wpAny_bind (J.type.here ?_)
  have h1 : Builtin.List.listSameRef (.ref q) (.ref a) = false := beq_eq_false_iff_ne.mpr naq.symm
  refine PySem.W.KFB.if_not (by rw [h1]; rfl) ?_
  refine wpAny_bind (PySem.W.owit_iter hF I2.ok.mod.kin J c.it c.itF ?_)
  refine thn (run_under0 (us := [.ref a]) (vs := [.ref a]) Fi (sb0.mono (Nat.le_max_left _ _)) bi I2 (.cons rfl .nil) todo) ?_
  rintro w s2 ⟨z, H1, I3, rz, l, it, zs, rfl, ha3, hit, hl, lq, lit, hq3, hsl⟩
  cases rz
  unfold PySem.W.OwitIt
  have hT : s2.TypeIs (.ref it) "list_iterator" := ⟨_, itO_get I3 hit, rfl⟩
  refine wpAny_specialOf (name := Str.ofString "__next__") hT slot_listiter_next.lookup ?_
  refine wpAny_bind (wpAny_holding (hint_own c.ln Fl bl (sb0.mono (Nat.le_max_right _ _)) I3 ha3 hsl ?_))
  rintro room n H2 s3 I4 ⟨hit4, hl4, hq4, qend⟩
  have hne : it ≠ q := ne_of hit4 hq4 (fun z => by cases z)
  have fin : ∀ s4, Inv X pins σ H2 s4 → codeAny (model X.prog X.w) X.A.in1 (.builtin "list.extend.loop" ⟨[.ref q, .ref it, .none], []⟩) (wants (fun r s₂ => r = .none ∧ EP X pins σ Q (.ref q) s₂) X.xe) s4 := fun s4 I5 =>
    drain (A1 := X.A.in1) (F := upd (upd H2 it (junk it)) q (.lst zs)) (by simp [hh]) lit lq hne (fun s' I6 => ⟨rfl, .ref q, _, I6, rfl, qend⟩) _ 0 H2 s4 rfl (Nat.zero_le _) I5 hit4 hl4 (by rw [List.take_zero]; exact hq4) rfl
  refine wpAny_ite_split (fun _ => ?_) (fun _ => wpAny_pure ⟨plainId_quiet PySem.F.plain_extend_loop _, fin s3 I4⟩)
  refine wpAny_bind (wpAny_rule (wpAny_bind ?_))
  obtain ⟨_, its, k4, r4, hl5, e4⟩ := I4.lstM hq4
  cases r4
  refine wpAny_bind (m := updateSeq q (·.push .none)) (wpAny_updateSeq e4 rfl ?_)
  have I5 := I4.lset (f := (·.push Value.none)) (its' := [Value.none]) (ys := [.non]) (t' := s3.toks) hq4 e4 (by simp) (.cons rfl .nil) (by rw [List.length_singleton, sizeLine_eq]; decide)
  obtain ⟨_, its5, k5, r5, hl6, e5⟩ := I5.lstM upd_same
  obtain ⟨u5, rfl, ru5⟩ := r5.one
  refine wpAny_updateSeq (a := q) (f := (·.pop)) e5 rfl ?_ (by show 1 ≤ sizeLine; rw [sizeLine_eq]; decide) (by show 0 ≤ sizeLine + 1; exact Nat.zero_le _)
  have I6 := I5.lset (f := (·.pop)) (its := [u5]) (its' := []) (ys := []) (t' := s3.toks) upd_same e5 (by rfl) .nil (Nat.zero_le _)
  rw [upd_upd, same_upd hq4] at I6
  exact wpAny_pure ⟨plainId_quiet PySem.F.plain_extend_loop _, fin _ I6⟩
end
/-! ### a static method, called by its class's name -/
structure StaC (K : PySem.W.Frag) (C : Addr) (mc : Value) (m : Str) (p g : Addr) : Prop where
  rd : PySem.W.readsIn K C mc = true
  ga : PySem.W.specialIn K (.ref C) "__getattribute__" = some (some (.builtin "type.__getattribute__"))
  at_ : PySem.W.findCls K (.ref C) mc m = some (.get (.builtin "staticmethod.__get__") (.ref p) .none (.ref C))
  rc : ∃ rest, PySem.W.recIn K p "staticmethod" = some (.ref g :: rest)
  kp : PySem.W.keepIn K (.ref g) = true
def tSta (C : Addr) (sp : Sp) (dvs : List V) (E : XK) (ta : TE) (t : TA) : TE := fun σ H Q => ta σ H fun x H1 => x = .ref C ∧ t σ H1 fun vs H2 => sp (vs ++ dvs) H2 Q E
section
variable {X : Cx} {CX : CXT} {C p g : Addr} {mc : Value} {m : Str} {fd : FuncData} {ps : List Str} {sp : Sp} {E : XK} {k : Nat} {o e : Expr} {es : List Expr} {ta : TE} {t : TA} {apos pos : Pos} {dvs : List V} {ds : List Value}
theorem pe_sta {pl : Sem Bool} (he : PE X o ta) (c : StaC X.K C mc m p g) (F : FnOk X.prog X.w X.K X.mg X.base CX k g fd ps sp) (hr : Room k X.A) (hb : Binds X.K fd ps ds) (hd : Vals dvs ds) (hx : Passes CX X E) (ha : PA X (e :: es) t)
    (hst : starEach (e :: es) X.env = (false, eval e X.env) :: starEach es X.env := by rfl) (hpl : (backTo pos (starEach es X.env)).any (·.1) = false := by rfl)
    (ht : eval (.Call (.Attribute o m apos) (e :: es) [] pos) X.env = (eval o X.env >>= fun ov => standAt apos.atName >>= fun _ => holding [ov] (getMethod ov m pl) >>= fun fr => callWith pos fr.1 fr.2 (backTo pos (starEach (e :: es) X.env)) (backToKw pos (keywordEach [] X.env))) := by rfl) :
    PE X (.Call (.Attribute o m apos) (e :: es) [] pos) (tSta C sp dvs E ta t) := by
  refine ⟨fun pins s σ H Q I h => ?_⟩
  refine PySem.W.methodCall_KW (pl := pl) (thn (he.run pins s σ H _ I h) ?_) ht
  rintro u s1 ⟨x, H1, I1, rx, rfl, q⟩
  cases rx
  obtain ⟨rest, hp⟩ := c.rc
  refine PySem.W.method_cls I1.kIn c.ga (PySem.W.cls_bind I1.kIn c.rd c.at_ (wpAny_call ?_))
  refine PySem.W.sm_get (s := { s1 with toks := s1.toks + 1 }) I1.kIn hp (PySem.W.handed_on rfl ?_)
  refine PySem.W.callWith_K (first := []) (h₀ := X.base) I1.ok.mod.kin c.kp (thn (ha.run pos pins _ σ H1 _ (I1.tok _) q) fun us s2 ⟨vs, H2, I2, r, q2⟩ => ⟨I2.kIn, ?_⟩) hst hpl
  exact run_fn F hr hb hd hx I2 r q2
/-- x in t, t a tuple, of data of any depth -/
def rInT (K : PySem.W.Frag) (neg : Bool) : R2 := fun x y H Q => ∃ d ds, Dp K H x d ∧ Dp K H y (.tuple ds) ∧ SeqAt.shaped d = true ∧ SeqAt.shaped (.tuple ds) = true ∧ Q (.bl (if neg then !(ds.any fun z => PyData.eqv z d) else ds.any fun z => PyData.eqv z d)) H
theorem op_inT (hu : X.A.units + 65 < cLine) : OpR X (compareOp .In) (rInT X.K false) := by
  rintro pins s σ H x y v u Q I rx ry ⟨d, ds, hd, he, sd, se, q⟩
  obtain ⟨as, r1⟩ := Dp.reads I d x v hd rx
  obtain ⟨bs, r2⟩ := Dp.reads I (.tuple ds) y u he ry
  exact SeqAt.in_tuple_reads r2 r1 (SeqAt.canLay_of_shaped se) (SeqAt.canLay_of_shaped sd) (room_in_shaped sd hu) ⟨.bl _, H, I, rfl, q⟩
theorem op_notInT (hu : X.A.units + 65 < cLine) : OpR X (compareOp .NotIn) (rInT X.K true) := by
  rintro pins s σ H x y v u Q I rx ry ⟨d, ds, hd, he, sd, se, q⟩
  obtain ⟨as, r1⟩ := Dp.reads I d x v hd rx
  obtain ⟨bs, r2⟩ := Dp.reads I (.tuple ds) y u he ry
  exact SeqAt.notIn_tuple_reads r2 r1 (SeqAt.canLay_of_shaped se) (SeqAt.canLay_of_shaped sd) (room_in_shaped sd hu) ⟨.bl _, H, I, rfl, q⟩
end
end My

set_option Elab.async false
set_option linter.all false
set_option maxRecDepth 100000
set_option maxHeartbeats 4000000
/-! ### slices of mapped lists -/
namespace My
open PySem L2
theorem cut_ij {α : Type} {f : α → V} {ts : List α} {i j : Nat} (h : i ≤ j) : cutV (ts.map f) (some (i : Int)) (some (j : Int)) = ((ts.drop i).take (j - i)).map f := by
  unfold cutV
  rw [HT.sIx_nat, HT.sIx_nat, List.length_map, ← List.map_drop, ← List.map_take]
  congr 1
  rcases Nat.le_total i ts.length with z | z
  · rw [Nat.min_eq_left z]
    rcases Nat.le_total j ts.length with z2 | z2
    · rw [Nat.min_eq_left z2]
    · rw [Nat.min_eq_right z2, List.take_of_length_le (by rw [List.length_drop]; omega), List.take_of_length_le (by rw [List.length_drop]; omega)]
  · rw [Nat.min_eq_right z, List.drop_length, List.drop_of_length_le z]; simp
theorem cut_0j {α : Type} {f : α → V} {ts : List α} {j : Nat} : cutV (ts.map f) none (some (j : Int)) = (ts.take j).map f := by
  have := cut_ij (f := f) (ts := ts) (Nat.zero_le j)
  rw [List.drop_zero, Nat.sub_zero] at this
  exact this
theorem cut_i {α : Type} {f : α → V} {ts : List α} {i : Nat} : cutV (ts.map f) (some (i : Int)) none = (ts.drop i).map f := by
  unfold cutV
  rw [HT.sIx_nat, ← List.map_drop, ← List.map_take]
  congr 1
  show (ts.drop (min i (ts.map f).length)).take ((ts.map f).length - _) = _
  rw [List.length_map]
  rcases Nat.le_total i ts.length with z | z
  · rw [Nat.min_eq_left z, List.take_of_length_le (by rw [List.length_drop]; omega)]
  · rw [Nat.min_eq_right z, List.drop_length, List.drop_of_length_le z]; simp
end My

set_option Elab.async false
set_option linter.all false
set_option maxRecDepth 100000
set_option maxHeartbeats 4000000
/-! ### data of any depth: kept, walked in lists or tuples -/
namespace My
open PySem PySem.Spec PyProof.Rows L2
/-- no list or tuple stands in S -/
def NoSq (H : Hp) (S : List Addr) : Prop := ∀ a ∈ S, (∀ xs, H a ≠ some (.lst xs)) ∧ (∀ xs, H a ≠ some (.tup xs)) ∧ ∀ o u, H a ≠ some (.frz o u)
theorem noSq0 {H : Hp} : NoSq H [] := fun a h => nomatch h
theorem noSq1 {H : Hp} {a C dx : Addr} {fs : List (Str × V)} (h : H a = some (.ins C dx fs)) : NoSq H [a] := fun b hb => by
  rw [List.mem_singleton.mp hb, h]
  exact ⟨fun _ z => (by cases z), fun _ z => (by cases z), fun _ _ z => (by cases z)⟩
theorem Kp.lsN {S : List Addr} {K : PySem.W.Frag} {H H' : Hp} {a : Addr} {xs : List V} (k : Kp S H H') (n : NoSq H S) (h : SqL K H a xs) : SqL K H' a xs := by
  rcases h with (h | ⟨o, h⟩) | h
  · exact .inl (.inl (k _ _ (fun z => (n a z).1 _ h) h))
  · exact .inl (.inr ⟨o, k _ _ (fun z => (n a z).2.2 _ _ h) h⟩)
  · exact .inr h
theorem Kp.tpN {S : List Addr} {K : PySem.W.Frag} {H H' : Hp} {a : Addr} {xs : List V} (k : Kp S H H') (n : NoSq H S) (h : SqT K H a xs) : SqT K H' a xs := by
  rcases h with (h | ⟨o, h⟩) | h
  · exact .inl (.inl (k _ _ (fun z => (n a z).2.1 _ h) h))
  · exact .inl (.inr ⟨o, k _ _ (fun z => (n a z).2.2 _ _ h) h⟩)
  · exact .inr h
mutual
theorem dpN {S : List Addr} {K : PySem.W.Frag} {H H' : Hp} (k : Kp S H H') (n : NoSq H S) : ∀ {d : PyData} {v : V}, Dp K H v d → Dp K H' v d
  | _, _, .non => .non
  | _, _, .bl b => .bl b
  | _, _, .int i => .int i
  | _, _, .str x => .str x
  | _, _, .lst e h => .lst (k.lsN n e) (dpAllN k n h)
  | _, _, .tup e h => .tup (k.tpN n e) (dpAllN k n h)
theorem dpAllN {S : List Addr} {K : PySem.W.Frag} {H H' : Hp} (k : Kp S H H') (n : NoSq H S) : ∀ {ds : List PyData} {vs : List V}, DpAll K H vs ds → DpAll K H' vs ds
  | _, _, .nil => .nil
  | _, _, .cons h t => .cons (dpN k n h) (dpAllN k n t)
end
mutual
def noLs : PyData → Bool
  | .list _ => false
  | .tuple ds => noLsAll ds
  | _ => true
def noLsAll : List PyData → Bool
  | [] => true
  | d :: ds => noLs d && noLsAll ds
end
/-- .. stand as before, where lists change -/
def NoTp (H : Hp) (S : List Addr) : Prop := ∀ a ∈ S, (∀ xs, H a ≠ some (.tup xs)) ∧ ∀ o u, H a ≠ some (.frz o u)
theorem noTp1 {H : Hp} {a : Addr} {xs : List V} (h : H a = some (.lst xs)) : NoTp H [a] := fun b hb => by
  rw [List.mem_singleton.mp hb, h]
  exact ⟨fun _ z => (by cases z), fun _ _ z => (by cases z)⟩
theorem Kp.tpT {S : List Addr} {K : PySem.W.Frag} {H H' : Hp} {a : Addr} {xs : List V} (k : Kp S H H') (n : NoTp H S) (h : SqT K H a xs) : SqT K H' a xs := by
  rcases h with (h | ⟨o, h⟩) | h
  · exact .inl (.inl (k _ _ (fun z => (n a z).1 _ h) h))
  · exact .inl (.inr ⟨o, k _ _ (fun z => (n a z).2 _ _ h) h⟩)
  · exact .inr h
mutual
theorem dpT {S : List Addr} {K : PySem.W.Frag} {H H' : Hp} (k : Kp S H H') (n : NoTp H S) : ∀ {d : PyData} {v : V}, Dp K H v d → noLs d = true → Dp K H' v d
  | _, _, .non, _ => .non
  | _, _, .bl b, _ => .bl b
  | _, _, .int i, _ => .int i
  | _, _, .str x, _ => .str x
  | _, _, .lst e h, z => by cases z
  | _, _, .tup e h, z => .tup (k.tpT n e) (dpAllT k n h z)
theorem dpAllT {S : List Addr} {K : PySem.W.Frag} {H H' : Hp} (k : Kp S H H') (n : NoTp H S) : ∀ {ds : List PyData} {vs : List V}, DpAll K H vs ds → noLsAll ds = true → DpAll K H' vs ds
  | _, _, .nil, _ => .nil
  | _, _, .cons h t, z => by
    have z' := Bool.and_eq_true_iff.mp z
    exact .cons (dpT k n h z'.1) (dpAllT k n t z'.2)
end
theorem dpLen {K : PySem.W.Frag} {H : Hp} : ∀ {ds : List PyData} {vs : List V}, DpAll K H vs ds → vs.length = ds.length
  | _, _, .nil => rfl
  | _, _, .cons h t => by rw [List.length_cons, List.length_cons, dpLen t]
theorem dpGet {K : PySem.W.Frag} {H : Hp} : ∀ {ds : List PyData} {vs : List V}, DpAll K H vs ds → ∀ {i : Nat} {v : V}, vs[i]? = some v → ∃ d, ds[i]? = some d ∧ Dp K H v d
  | _, _, .nil, _, _, e => nomatch e
  | _, _, .cons h t, 0, _, e => by cases e; exact ⟨_, rfl, h⟩
  | _, _, .cons h t, i + 1, _, e => dpGet t (i := i) e
theorem dpApp {K : PySem.W.Frag} {H : Hp} : ∀ {ds es : List PyData} {vs us : List V}, DpAll K H vs ds → DpAll K H us es → DpAll K H (vs ++ us) (ds ++ es)
  | _, _, _, _, .nil, k => k
  | _, _, _, _, .cons h t, k => .cons h (dpApp t k)
theorem dpTake {K : PySem.W.Frag} {H : Hp} : ∀ {ds : List PyData} {vs : List V}, DpAll K H vs ds → ∀ i, DpAll K H (vs.take i) (ds.take i)
  | _, _, .nil, i => by rw [List.take_nil, List.take_nil]; exact .nil
  | _, _, .cons h t, 0 => .nil
  | _, _, .cons h t, i + 1 => .cons h (dpTake t i)
theorem dpDrop {K : PySem.W.Frag} {H : Hp} : ∀ {ds : List PyData} {vs : List V}, DpAll K H vs ds → ∀ i, DpAll K H (vs.drop i) (ds.drop i)
  | _, _, .nil, i => by rw [List.drop_nil, List.drop_nil]; exact .nil
  | _, _, .cons h t, 0 => .cons h t
  | _, _, .cons h t, i + 1 => dpDrop t i
theorem dpRev {K : PySem.W.Frag} {H : Hp} : ∀ {ds : List PyData} {vs : List V}, DpAll K H vs ds → DpAll K H vs.reverse ds.reverse
  | _, _, .nil => .nil
  | _, _, .cons h t => by
    rw [List.reverse_cons, List.reverse_cons]
    exact dpApp (dpRev t) (.cons h .nil)
theorem dpStrs {K : PySem.W.Frag} {H : Hp} : ∀ zs : List Str, DpAll K H (zs.map V.str) (zs.map PyData.str)
  | [] => .nil
  | z :: zs => .cons (.str z) (dpStrs zs)
/-- an object walked that is a list or a tuple -/
def SqAny (K : PySem.W.Frag) (H : Hp) (a : Addr) (xs : List V) : Prop := SqL K H a xs ∨ SqT K H a xs
theorem Kp.anyN {S : List Addr} {K : PySem.W.Frag} {H H' : Hp} {a : Addr} {xs : List V} (k : Kp S H H') (n : NoSq H S) (h : SqAny K H a xs) : SqAny K H' a xs := h.imp (k.lsN n) (k.tpN n)
def iSeq (K : PySem.W.Frag) (tl : TE) : TI := fun σ H R => tl σ H fun x H1 => ∃ a, x = .ref a ∧ (((∃ xs, SqL K H1 a xs) ∧ R (Itl K a) H1) ∨ ((∃ xs, SqT K H1 a xs) ∧ R (Itt K a) H1))
section
variable {X : Cx} {tg : Expr}
theorem pi_seq {l : Expr} {tl : TE} (hl : PE X l tl) : PI X tg l (iSeq X.K tl) := by
  refine ⟨fun pins s σ H R I h => thn (hl.run pins s σ H _ I h) ?_⟩
  rintro v s1 ⟨x, H1, I1, r1, a, rfl, ⟨⟨xs, hq⟩, q⟩ | ⟨⟨xs, hq⟩, q⟩⟩
  · cases r1
    obtain ⟨its, rv, p, hz⟩ := I1.list hq
    refine wpAny_pyIter_list p.isList ⟨_, [_], _, _, H1, rfl, I1.kept (t' := s1.toks) (fun b o e => Heap.get?_push_of_some _ e), turn_list a _, ⟨_, Heap.get?_push_size _ rfl, rfl, rfl⟩, fun b hb => ?_, q⟩
    rw [List.mem_singleton.mp hb]
    exact I1.fpOk (Nat.le_refl _) (I1.hok.fresh (Nat.le_refl _))
  · cases r1
    obtain ⟨its, rv, p, hz⟩ := I1.tuple hq
    refine wpAny_pyIter_tuple (show s1.heap.IsTuple a its.toArray from p) ⟨_, [_], _, _, H1, rfl, I1.kept (t' := s1.toks) (fun b o e => Heap.get?_push_of_some _ e), turn_tuple a _, ⟨_, Heap.get?_push_size _ rfl, rfl, rfl⟩, fun b hb => ?_, q⟩
    rw [List.mem_singleton.mp hb]
    exact I1.fpOk (Nat.le_refl _) (I1.hok.fresh (Nat.le_refl _))
/-- x in s, s a list or a tuple -/
def rInS (K : PySem.W.Frag) (neg : Bool) : R2 := fun x y H Q => ∃ (d : PyData) (ds : List PyData) (a : Addr) (xs : List V), y = .ref a ∧ SqAny K H a xs ∧ DpAll K H xs ds ∧ Dp K H x d ∧ SeqAt.shaped d = true ∧ SeqAt.shaped (.list ds) = true ∧ Q (.bl (if neg then !(ds.any fun z => PyData.eqv z d) else ds.any fun z => PyData.eqv z d)) H
theorem op_inS (hu : X.A.units + 65 < cLine) : OpR X (compareOp .In) (rInS X.K false) := by
  rintro pins s σ H x y v u Q I rx ry ⟨d, ds, a, xs, rfl, ha | ha, hx, hd, s1, s2, q⟩
  · exact op_inD hu pins s σ H x _ v u Q I rx ry ⟨d, ds, hd, .lst ha hx, s1, s2, q⟩
  · exact op_inT hu pins s σ H x _ v u Q I rx ry ⟨d, ds, hd, .tup ha hx, s1, s2, q⟩
theorem op_notInS (hu : X.A.units + 65 < cLine) : OpR X (compareOp .NotIn) (rInS X.K true) := by
  rintro pins s σ H x y v u Q I rx ry ⟨d, ds, a, xs, rfl, ha | ha, hx, hd, s1, s2, q⟩
  · exact op_notInD hu pins s σ H x _ v u Q I rx ry ⟨d, ds, hd, .lst ha hx, s1, s2, q⟩
  · exact op_notInT hu pins s σ H x _ v u Q I rx ry ⟨d, ds, hd, .tup ha hx, s1, s2, q⟩
theorem hu5 {A : Around} {k : Nat} (hr : Room k A) : A.units + 65 < cLine := by have := hr.un; omega
end
section
variable {K : PySem.W.Frag} {H H0 : Hp} {a : Addr} {xs : List V} {g : TG} {tb : TS} {D : Ends} {σ : L2.St} {i : Nat}
/-- for x in s, s a list or a tuple that stands still -/
theorem forS (Pv : Nat → L2.St → Hp → Prop) (hσ : σ[i]? = some (some (.ref a))) (hS : SqAny K H a xs) (h0 : Pv 0 σ H) (hk : ∀ j σ' H', Pv j σ' H' → Kp [] H H')
    (hs : ∀ j x σ H, xs[j]? = some x → Pv j σ H → g x σ H fun σ2 H2 => tb { D with nx := Pv (j + 1), ct := Pv (j + 1), bk := D.nx } σ2 H2) (hd : ∀ σ H, Pv xs.length σ H → D.nx σ H) : tFor (iSeq K (tVar i)) g tb D σ H := by
  rcases hS with h | h
  · exact ⟨_, hσ, a, rfl, .inl ⟨⟨xs, h⟩, for_list Pv h0 (fun j σ' H' _ p => (hk j σ' H' p).ls not0 h) hs hd⟩⟩
  · exact ⟨_, hσ, a, rfl, .inr ⟨⟨xs, h⟩, for_tup Pv h0 (fun j σ' H' _ p => (hk j σ' H' p).tp not0 h) hs hd⟩⟩
end
end My

set_option Elab.async false
set_option linter.all false
set_option maxRecDepth 100000
set_option maxHeartbeats 4000000
/-! ### t < u of two tuples, where only the first items that differ need to compare -/
namespace My
open PySem PySem.SeqAt
open PyProof.Rows Ob Builtin
theorem ltAt1 (l b : Addr) (us vs : Array Value) (n n2 : Nat) (dd dd2 : Option Addr) (sl sl2 : Array (Option Value)) (e r : Nat → Bool) :
    Meets (Builtin.«tuple.__lt__» ⟨[.ref l, .ref b], []⟩) (fun A R s => s.heap.get? l = some { cls := .type "tuple", dict := dd, data := .seq us n, slots := sl } ∧
        s.heap.get? b = some { cls := .type "tuple", dict := dd2, data := .seq vs n2, slots := sl2 } ∧
        (∀ j (h1 : j < us.size) (h2 : j < vs.size), EqAt A.in1 s us[j] vs[j] (e j)) ∧
        (∀ j (h1 : j < us.size) (h2 : j < vs.size), (∀ i, i < j → e i = true) → e j = false → RcOp .Lt A.in1 s us[j] vs[j] (r j)) ∧
        R (.ok (.ret (.bool (lexAt e r (decide (us.size < vs.size)) 0 (min us.size vs.size))))) s) := .of_wp fun prog w A R s h => by
  obtain ⟨hp, g, d, tk, os⟩ := s
  obtain ⟨hl, hb, he, hr, h⟩ := h
  have ty := AutoSeq1.sub_tuple_tuple
  have zl : (us.toList.zip vs.toList).length = min us.size vs.size := by simp
  wp_walk using wpAny_loadPart' hl, wpAny_loadPart' hb, wpAny_forIn_list _ (fun rest b s' => b.1 = none ∧ s' = ⟨hp, g, d, tk, os⟩ ∧ ∃ i, rest = (us.toList.zip vs.toList).drop i ∧ (∀ k, k < i → e k = true) ∧
      R (.ok (.ret (.bool (lexAt e r (decide (us.size < vs.size)) i (min us.size vs.size - i))))) ⟨hp, g, d, tk, os⟩) _
  case turn =>
    rintro ⟨y, x⟩ rest b s' ⟨nb, rfl, i, hz, ae, hR⟩
    have li : i < (us.toList.zip vs.toList).length := Nat.lt_of_not_le fun h' => by rw [List.drop_of_length_le h'] at hz; cases hz
    have lm : i < min us.size vs.size := zl ▸ li
    have m1 : i < us.size := by omega
    have m2 : i < vs.size := by omega
    rw [List.drop_eq_getElem_cons li] at hz
    injection hz with e1 e2
    obtain rfl : y = us[i] := by have := congrArg Prod.fst e1; simpa using this
    obtain rfl : x = vs[i] := by have := congrArg Prod.snd e1; simpa using this
    rw [show min us.size vs.size - i = (min us.size vs.size - (i + 1)) + 1 by omega, lexAt_succ] at hR
    refine wpAny_bind (he i m1 m2 prog w _ _ ?_)
    cases q : e i with
    | true =>
      rw [q, if_pos rfl] at hR
      wp_walk
      exact ⟨rfl, rfl, i + 1, e2, fun k hk => by
        rcases Nat.lt_succ_iff_lt_or_eq.mp hk with h | h
        · exact ae k h
        · rw [h]; exact q, hR⟩
    | false =>
      rw [q, if_neg Bool.false_ne_true] at hR
      have go := hr i m1 m2 ae q prog w
      wp_walk using go
      exact ⟨_, rfl, by simpa using hR⟩
  case fin =>
    rintro ⟨b1, b2⟩ s' ⟨nb, rfl, i, hz, ae, hR⟩
    simp only at nb
    subst nb
    have out : min us.size vs.size ≤ i := Nat.le_of_not_lt fun h' => by
      have h' : i < (us.toList.zip vs.toList).length := by rw [zl]; exact h'
      rw [List.drop_eq_getElem_cons h'] at hz; cases hz
    rw [Nat.sub_eq_zero_of_le out, lexAt_zero] at hR
    wp_walk
    exact ⟨_, rfl, by simpa [Builtin.Tuple.tupleCompareSizes] using hR⟩
  case h => exact ⟨rfl, rfl, 0, rfl, fun k hk => absurd hk (Nat.not_lt_zero k), by simpa using h⟩
theorem tuples_lt1 {A : Around} {s : Shared} {l b : Addr} {us vs : Array Value} {e r : Nat → Bool} (hl : s.heap.IsTuple l us) (hb : s.heap.IsTuple b vs) (hu : A.units < cLine)
    (he : ∀ j (h1 : j < us.size) (h2 : j < vs.size), EqAt A.in1 s us[j] vs[j] (e j))
    (hr : ∀ j (h1 : j < us.size) (h2 : j < vs.size), (∀ i, i < j → e i = true) → e j = false → RcOp .Lt A.in1 s us[j] vs[j] (r j)) :
    RcOp .Lt A s (.ref l) (.ref b) (lexAt e r (decide (us.size < vs.size)) 0 (min us.size vs.size)) := fun prog w E Q h => by
  obtain ⟨⟨c1, d1, p1, s1⟩, ho, hc, n, hd⟩ := id hl
  obtain ⟨⟨c2, d2, p2, s2⟩, ho2, hc2, n2, hd2⟩ := id hb
  simp only at hc hd hc2 hd2
  subst hc hd hc2 hd2
  exact richCompare_meets_room (op := .Lt) ⟨_, ho, rfl⟩ ⟨_, ho2, rfl⟩ F.slot_tuple_lt F.entry_tuple_lt (F.args_tuple_lt_2 _ _) (ltAt1 l b us vs n n2 d1 d2 s1 s2 e r) ⟨ho, ho2, he, hr, ⟨(fun x => nomatch x), h⟩⟩ hu
end My

set_option Elab.async false
set_option linter.all false
set_option maxRecDepth 100000
set_option maxHeartbeats 4000000
/-! ### sorted(moves): a move is ((caller, word, what), goal) -/
namespace My
open PySem PySem.Spec PyProof.Rows L2
abbrev Dd := Int × Str × Key
abbrev Mv := Dd × Int
def kD : Key → PyData
  | .inl i => .int i
  | .inr z => .str z
def ddD (d : Dd) : PyData := .tuple [.int d.1, .str d.2.1, kD d.2.2]
def mvD (m : Mv) : PyData := .tuple [ddD m.1, .int m.2]
def kKey : Key → List Nat
  | .inl i => [0, i.toNat]
  | .inr z => 1 :: z.cps.toList
def ddK (d : Dd) : List (List Nat) := [[d.1.toNat], d.2.1.cps.toList, kKey d.2.2]
def mvK (m : Mv) : List (List Nat) := ddK m.1 ++ [[m.2.toNat]]
def mvLt (m n : Mv) : Bool := decide (mvK m < mvK n)
def sameK : Key → Key → Bool
  | .inl _, .inl _ => true
  | .inr _, .inr _ => true
  | _, _ => false
def posK : Key → Prop
  | .inl i => 0 ≤ i
  | .inr _ => True
def MvOk (m : Mv) : Prop := 0 ≤ m.1.1 ∧ 0 ≤ m.2 ∧ posK m.1.2.2 ∧ PyData.canLay0 (ddD m.1) = true
def MvCmp (m n : Mv) : Prop := m.1.1 = n.1.1 → m.1.2.1 = n.1.2.1 → sameK m.1.2.2 n.1.2.2 = true
theorem mvLt_swo {α : Type} (k : α → Mv) : SrtO.Swo fun x y => mvLt (k x) (k y) := by
  refine ⟨fun x y h => ?_, fun x y z h1 h2 => ?_⟩
  · unfold mvLt at h ⊢
    exact decide_eq_false (List.lt_asymm (of_decide_eq_true h))
  · unfold mvLt at h1 h2 ⊢
    exact decide_eq_false (List.not_lt.mpr (List.le_trans (List.not_lt.mp (of_decide_eq_false h1)) (List.not_lt.mp (of_decide_eq_false h2))))
theorem eqvK (a b : Key) : PyData.eqv (kD a) (kD b) = decide (a = b) := by
  cases a with
  | inl i =>
    cases b with
    | inl j =>
      have e : PyData.eqv (kD (.inl i)) (kD (.inl j)) = (i == j) := by simp only [kD, PyData.eqv]
      rw [e, Bool.eq_iff_iff, beq_iff_eq, decide_eq_true_eq]
      exact ⟨fun h => by rw [h], fun h => Sum.inl.inj h⟩
    | inr z =>
      have e : PyData.eqv (kD (.inl i)) (kD (.inr z)) = false := by simp only [kD, PyData.eqv]
      rw [e, decide_eq_false (fun h => nomatch h)]
  | inr y =>
    cases b with
    | inl j =>
      have e : PyData.eqv (kD (.inr y)) (kD (.inl j)) = false := by simp only [kD, PyData.eqv]
      rw [e, decide_eq_false (fun h => nomatch h)]
    | inr z =>
      have e : PyData.eqv (kD (.inr y)) (kD (.inr z)) = (y == z) := by simp only [kD, PyData.eqv]
      rw [e, Bool.eq_iff_iff, beq_iff_eq, decide_eq_true_eq]
      exact ⟨fun h => by rw [h], fun h => Sum.inr.inj h⟩
theorem eqvDd (a b : Dd) : PyData.eqv (ddD a) (ddD b) = decide (a = b) := by
  obtain ⟨a1, a2, a3⟩ := a
  obtain ⟨b1, b2, b3⟩ := b
  have e : PyData.eqv (ddD (a1, a2, a3)) (ddD (b1, b2, b3)) = ((a1 == b1) && ((a2 == b2) && (PyData.eqv (kD a3) (kD b3) && true))) := by simp only [ddD, PyData.eqv, PyData.eqvAll]
  rw [e, eqvK, Bool.and_true, Bool.eq_iff_iff, Bool.and_eq_true, Bool.and_eq_true, beq_iff_eq, beq_iff_eq, decide_eq_true_eq, decide_eq_true_eq]
  constructor
  · rintro ⟨rfl, rfl, rfl⟩; rfl
  · intro h; cases h; exact ⟨rfl, rfl, rfl⟩
theorem eqvMv (a b : Mv) : PyData.eqv (mvD a) (mvD b) = decide (a = b) := by
  obtain ⟨a1, a2⟩ := a
  obtain ⟨b1, b2⟩ := b
  have e : PyData.eqv (mvD (a1, a2)) (mvD (b1, b2)) = (PyData.eqv (ddD a1) (ddD b1) && ((a2 == b2) && true)) := by simp only [mvD, PyData.eqv, PyData.eqvAll]
  rw [e, eqvDd, Bool.and_true, Bool.eq_iff_iff, Bool.and_eq_true, beq_iff_eq, decide_eq_true_eq, decide_eq_true_eq]
  constructor
  · rintro ⟨rfl, rfl⟩; rfl
  · intro h; cases h; exact ⟨rfl, rfl⟩
/-! #### as it stands in the heap -/
def KvIs (kv : Value) : Key → Prop
  | .inl i => ∃ t, kv = .int i t
  | .inr z => ∃ t, kv = .str z t
def IsDd (h : Heap) (d : Addr) (x : Dd) : Prop := ∃ o n tc tw kv, h.get? d = some o ∧ o.cls = .type "tuple" ∧ o.data = .seq #[.int x.1 tc, .str x.2.1 tw, kv] n ∧ KvIs kv x.2.2
def IsMv (h : Heap) (v : Value) (m : Mv) : Prop := ∃ a o n d tg, v = .ref a ∧ h.get? a = some o ∧ o.cls = .type "tuple" ∧ o.data = .seq #[.ref d, .int m.2 tg] n ∧ IsDd h d m.1
theorem IsMv.keeps {h h' : Heap} {v : Value} {m : Mv} (p : IsMv h v m) (k : ∀ b o, h.get? b = some o → o.cls = .type "tuple" → h'.get? b = some o) : IsMv h' v m := by
  obtain ⟨a, o, n, d, tg, e, g, c, dd, o2, n2, tc, tw, kv, g2, c2, dd2, kk⟩ := p
  exact ⟨a, o, n, d, tg, e, k _ _ g c, c, dd, o2, n2, tc, tw, kv, k _ _ g2 c2, c2, dd2, kk⟩
theorem readsK {h : Heap} {kv : Value} {k : Key} (e : KvIs kv k) : Reads h kv (kD k) [] := by
  cases k with
  | inl i => obtain ⟨t, rfl⟩ := e; exact .int i t
  | inr z => obtain ⟨t, rfl⟩ := e; exact .str z t
theorem IsDd.reads {h : Heap} {d : Addr} {x : Dd} (p : IsDd h d x) : ∃ as, Reads h (.ref d) (ddD x) as := by
  obtain ⟨o, n, tc, tw, kv, g, c, dd, kk⟩ := p
  exact ⟨_, .tuple g c dd (.cons (.int _ _) (.cons (.str _ _) (.cons (readsK kk) .nil)))⟩
theorem seqs2 {us : Array Value} {x y : Value} (h : us.toList = [x, y]) : us = #[x, y] := by
  rw [← Array.toArray_toList (xs := us), h]
theorem seqs3 {us : Array Value} {x y z : Value} (h : us.toList = [x, y, z]) : us = #[x, y, z] := by
  rw [← Array.toArray_toList (xs := us), h]
theorem isDd_of {h : Heap} {v : Value} {x : Dd} {as : List Addr} (r : Reads h v (ddD x) as) : ∃ d, v = .ref d ∧ IsDd h d x := by
  obtain ⟨c, w, k⟩ := x
  generalize e : ddD (c, w, k) = y at r
  unfold ddD at e
  cases r with
  | tuple g cl dd ra =>
    cases e
    rename_i a o vs n
    generalize el : vs.toList = l at ra
    cases ra with
    | cons r1 ra =>
      cases r1 with
      | int _ tc =>
        cases ra with
        | cons r2 ra =>
          cases r2 with
          | str _ tw =>
            cases ra with
            | cons r3 ra =>
              cases ra
              refine ⟨a, rfl, o, n, tc, tw, _, g, cl, by rw [dd, seqs3 el], ?_⟩
              cases k with
              | inl i => cases r3 with
                | int _ t => exact ⟨t, rfl⟩
              | inr z => cases r3 with
                | str _ t => exact ⟨t, rfl⟩
  | _ => cases e
theorem isMv_of {h : Heap} {v : Value} {m : Mv} {as : List Addr} (r : Reads h v (mvD m) as) : IsMv h v m := by
  obtain ⟨x, i⟩ := m
  generalize e : mvD (x, i) = y at r
  unfold mvD at e
  cases r with
  | tuple g cl dd ra =>
    cases e
    rename_i a o vs n
    generalize el : vs.toList = l at ra
    cases ra with
    | cons r1 ra =>
      obtain ⟨d, rfl, p⟩ := isDd_of r1
      cases ra with
      | cons r2 ra =>
        cases r2 with
        | int _ tg =>
          cases ra
          exact ⟨a, o, n, d, tg, rfl, g, cl, by rw [dd, seqs2 el], p⟩
  | _ => cases e
def kLt : Key → Key → Bool
  | .inl i, .inl j => decide (i < j)
  | .inr y, .inr z => decide (y.cps.toList < z.cps.toList)
  | _, _ => false
theorem toNat_lt {a b : Int} (ha : 0 ≤ a) (hb : 0 ≤ b) : a.toNat < b.toNat ↔ a < b := by omega
theorem nat1_lt {a b : Nat} : ([a] : List Nat) < [b] ↔ a < b := by
  rw [List.cons_lt_cons_iff]
  constructor
  · rintro (h | ⟨_, h⟩)
    · exact h
    · exact absurd h (List.lt_irrefl _)
  · exact .inl
theorem int1_lt {a b : Int} (ha : 0 ≤ a) (hb : 0 ≤ b) : ([a.toNat] : List Nat) < [b.toNat] ↔ a < b := by rw [nat1_lt, toNat_lt ha hb]
theorem int1_eq {a b : Int} (ha : 0 ≤ a) (hb : 0 ≤ b) : ([a.toNat] : List Nat) = [b.toNat] ↔ a = b := by
  constructor
  · intro h; have := (List.cons.inj h).1; omega
  · rintro rfl; rfl
theorem strs_eq {a b : Str} : a.cps.toList = b.cps.toList ↔ a = b := by
  constructor
  · intro h
    obtain ⟨⟨a⟩⟩ := a
    obtain ⟨⟨b⟩⟩ := b
    have h : a = b := h
    rw [h]
  · rintro rfl; rfl
theorem kKey_eq {a b : Key} (ha : posK a) (hb : posK b) : kKey a = kKey b ↔ a = b := by
  cases a with
  | inl i =>
    cases b with
    | inl j =>
      constructor
      · intro h
        have h : [0, i.toNat] = [0, j.toNat] := h
        have e := (List.cons.inj (List.cons.inj h).2).1
        have a1 : 0 ≤ i := ha
        have b1 : 0 ≤ j := hb
        rw [show i = j by omega]
      · rintro h; rw [h]
    | inr z => exact ⟨fun h => absurd (show [0, i.toNat] = 1 :: z.cps.toList from h) (by simp), fun h => nomatch h⟩
  | inr y =>
    cases b with
    | inl j => exact ⟨fun h => absurd (show 1 :: y.cps.toList = [0, j.toNat] from h) (by simp), fun h => nomatch h⟩
    | inr z =>
      constructor
      · intro h
        have h : 1 :: y.cps.toList = 1 :: z.cps.toList := h
        rw [strs_eq.mp (List.cons.inj h).2]
      · rintro h; rw [h]
theorem kKey_lt {a b : Key} (ha : posK a) (hb : posK b) (s : sameK a b = true) : kKey a < kKey b ↔ kLt a b = true := by
  cases a with
  | inl i =>
    cases b with
    | inl j =>
      have a1 : 0 ≤ i := ha
      have b1 : 0 ≤ j := hb
      show ([0, i.toNat] : List Nat) < [0, j.toNat] ↔ decide (i < j) = true
      rw [List.cons_lt_cons_iff, decide_eq_true_eq, ← toNat_lt a1 b1, ← nat1_lt (a := i.toNat)]
      constructor
      · rintro (h | ⟨_, h⟩)
        · exact absurd h (Nat.lt_irrefl _)
        · exact h
      · exact fun h => .inr ⟨rfl, h⟩
    | inr z => cases s
  | inr y =>
    cases b with
    | inl j => cases s
    | inr z =>
      show ((1 :: y.cps.toList : List Nat) < 1 :: z.cps.toList) ↔ decide (y.cps.toList < z.cps.toList) = true
      rw [List.cons_lt_cons_iff, decide_eq_true_eq]
      constructor
      · rintro (h | ⟨_, h⟩)
        · exact absurd h (Nat.lt_irrefl _)
        · exact h
      · exact fun h => .inr ⟨rfl, h⟩
/-- what < of two deeds tells -/
def ddB (x y : Dd) : Bool := if x.1 = y.1 then (if x.2.1 = y.2.1 then (if x.2.2 = y.2.2 then false else kLt x.2.2 y.2.2) else decide (x.2.1.cps.toList < y.2.1.cps.toList)) else decide (x.1 < y.1)
theorem ddB_eq {x y : Dd} (hx : 0 ≤ x.1) (hy : 0 ≤ y.1) (kx : posK x.2.2) (ky : posK y.2.2) (c : x.1 = y.1 → x.2.1 = y.2.1 → sameK x.2.2 y.2.2 = true) : ddB x y = decide (ddK x < ddK y) := by
  have e : ddK x < ddK y ↔ (x.1 < y.1 ∨ x.1 = y.1 ∧ (x.2.1.cps.toList < y.2.1.cps.toList ∨ x.2.1 = y.2.1 ∧ kKey x.2.2 < kKey y.2.2)) := by
    unfold ddK
    rw [List.cons_lt_cons_iff (a := [x.1.toNat]), List.cons_lt_cons_iff (a := x.2.1.cps.toList), List.cons_lt_cons_iff (a := kKey x.2.2), int1_lt hx hy, int1_eq hx hy, strs_eq]
    constructor
    · rintro (h | ⟨h, h2 | ⟨h2, h3 | ⟨_, h3⟩⟩⟩)
      · exact .inl h
      · exact .inr ⟨h, .inl h2⟩
      · exact .inr ⟨h, .inr ⟨h2, h3⟩⟩
      · exact absurd h3 (List.lt_irrefl _)
    · rintro (h | ⟨h, h2 | ⟨h2, h3⟩⟩)
      · exact .inl h
      · exact .inr ⟨h, .inl h2⟩
      · exact .inr ⟨h, .inr ⟨h2, .inl h3⟩⟩
  rw [Bool.eq_iff_iff, decide_eq_true_eq, e]
  unfold ddB
  by_cases h1 : x.1 = y.1
  · rw [if_pos h1]
    have n1 : ¬ x.1 < y.1 := by omega
    by_cases h2 : x.2.1 = y.2.1
    · rw [if_pos h2]
      have n2 : ¬ x.2.1.cps.toList < y.2.1.cps.toList := by rw [h2]; exact List.lt_irrefl _
      by_cases h3 : x.2.2 = y.2.2
      · rw [if_pos h3]
        refine ⟨(fun z => by cases z), ?_⟩
        rintro (h | ⟨_, h | ⟨_, h⟩⟩)
        · exact absurd h n1
        · exact absurd h n2
        · rw [h3] at h; exact absurd h (List.lt_irrefl _)
      · rw [if_neg h3, ← kKey_lt kx ky (c h1 h2)]
        refine ⟨fun z => .inr ⟨h1, .inr ⟨h2, z⟩⟩, ?_⟩
        rintro (h | ⟨_, h | ⟨_, h⟩⟩)
        · exact absurd h n1
        · exact absurd h n2
        · exact h
    · rw [if_neg h2, decide_eq_true_eq]
      refine ⟨fun z => .inr ⟨h1, .inl z⟩, ?_⟩
      rintro (h | ⟨_, h | ⟨h, _⟩⟩)
      · exact absurd h n1
      · exact h
      · exact absurd h h2
  · rw [if_neg h1, decide_eq_true_eq]
    refine ⟨.inl, ?_⟩
    rintro (h | ⟨h, _⟩)
    · exact h
    · exact absurd h h1
section
variable {prog : Program} {w : World} {A : Around} {s : Shared}
open PySem.SeqAt Ob
theorem eqKv {a b : Value} {x y : Key} (ha : KvIs a x) (hb : KvIs b y) : EqAt A s a b (decide (x = y)) := by
  cases x with
  | inl i =>
    obtain ⟨t, rfl⟩ := ha
    cases y with
    | inl j =>
      obtain ⟨u, rfl⟩ := hb
      have e : decide ((Sum.inl i : Key) = .inl j) = (i == j) := by
        rw [Bool.eq_iff_iff, beq_iff_eq, decide_eq_true_eq]
        exact ⟨fun h => Sum.inl.inj h, fun h => by rw [h]⟩
      rw [e]; exact EqAt.int_int _ _ _ _
    | inr z =>
      obtain ⟨u, rfl⟩ := hb
      rw [decide_eq_false (fun h => nomatch h)]; exact EqAt.int_str _ _ _ _
  | inr z =>
    obtain ⟨t, rfl⟩ := ha
    cases y with
    | inl j =>
      obtain ⟨u, rfl⟩ := hb
      rw [decide_eq_false (fun h => nomatch h)]; exact EqAt.str_int _ _ _ _
    | inr z2 =>
      obtain ⟨u, rfl⟩ := hb
      have e : decide ((Sum.inr z : Key) = .inr z2) = (z == z2) := by
        rw [Bool.eq_iff_iff, beq_iff_eq, decide_eq_true_eq]
        exact ⟨fun h => Sum.inr.inj h, fun h => by rw [h]⟩
      rw [e]; exact EqAt.str_str _ _ _ _
theorem RcOp.lt_str1 (a b : Str) (t u : Tok) : RcOp .Lt A s (.str a t) (.str b u) (decide (a.cps.toList < b.cps.toList)) := fun _ _ _ _ h => lt_str h
theorem ltKv {a b : Value} {x y : Key} (ha : KvIs a x) (hb : KvIs b y) (k : sameK x y = true) : RcOp .Lt A s a b (kLt x y) := by
  cases x with
  | inl i =>
    obtain ⟨t, rfl⟩ := ha
    cases y with
    | inl j => obtain ⟨u, rfl⟩ := hb; exact RcOp.lt_int _ _ _ _
    | inr z => cases k
  | inr z =>
    obtain ⟨t, rfl⟩ := ha
    cases y with
    | inl j => cases k
    | inr z2 => obtain ⟨u, rfl⟩ := hb; exact RcOp.lt_str1 _ _ _ _
theorem beq_dec {α : Type} [DecidableEq α] [BEq α] [LawfulBEq α] (a b : α) : (a == b) = decide (a = b) := by
  rw [Bool.eq_iff_iff, beq_iff_eq, decide_eq_true_eq]
def eJ (x y : Dd) : Nat → Bool
  | 0 => decide (x.1 = y.1)
  | 1 => decide (x.2.1 = y.2.1)
  | _ => decide (x.2.2 = y.2.2)
def rJ (x y : Dd) : Nat → Bool
  | 0 => decide (x.1 < y.1)
  | 1 => decide (x.2.1.cps.toList < y.2.1.cps.toList)
  | _ => kLt x.2.2 y.2.2
theorem ddLt {d d' : Addr} {x y : Dd} (p : IsDd s.heap d x) (q : IsDd s.heap d' y) (hu : A.units < cLine) (c : x.1 = y.1 → x.2.1 = y.2.1 → sameK x.2.2 y.2.2 = true) : RcOp .Lt A s (.ref d) (.ref d') (ddB x y) := by
  obtain ⟨o, n, tc, tw, kv, g, cl, dd, kk⟩ := p
  obtain ⟨o2, n2, tc2, tw2, kv2, g2, cl2, dd2, kk2⟩ := q
  have R := tuples_lt1 (A := A) (s := s) (l := d) (b := d') (us := #[.int x.1 tc, .str x.2.1 tw, kv]) (vs := #[.int y.1 tc2, .str y.2.1 tw2, kv2]) (e := eJ x y) (r := rJ x y) ⟨o, g, cl, n, dd⟩ ⟨o2, g2, cl2, n2, dd2⟩ hu (fun j h1 h2 => ?_) (fun j h1 h2 ae ef => ?_)
  · have e : lexAt (eJ x y) (rJ x y) (decide (3 < 3)) 0 3 = ddB x y := by
      have f3 : decide (3 < 3) = false := by decide
      rw [f3, lexAt_succ, lexAt_succ, lexAt_succ, lexAt_zero]
      unfold ddB eJ rJ
      by_cases h1 : x.1 = y.1
      · by_cases h2 : x.2.1 = y.2.1
        · by_cases h3 : x.2.2 = y.2.2 <;> simp [h1, h2, h3]
        · simp [h1, h2]
      · simp [h1]
    rw [← e]
    exact R
  · match j, h1, h2 with
    | 0, _, _ => show EqAt _ _ (.int x.1 tc) (.int y.1 tc2) (decide (x.1 = y.1)); rw [← beq_dec]; exact EqAt.int_int _ _ _ _
    | 1, _, _ => show EqAt _ _ (.str x.2.1 tw) (.str y.2.1 tw2) (decide (x.2.1 = y.2.1)); rw [← beq_dec]; exact EqAt.str_str _ _ _ _
    | 2, _, _ => exact eqKv kk kk2
    | k + 3, h1, _ => exact absurd h1 (by simp)
  · match j, h1, h2, ae, ef with
    | 0, _, _, _, _ => exact RcOp.lt_int _ _ _ _
    | 1, _, _, _, _ => exact RcOp.lt_str1 _ _ _ _
    | 2, _, _, ae, _ => exact ltKv kk kk2 (c (of_decide_eq_true (ae 0 (by decide))) (of_decide_eq_true (ae 1 (by decide))))
    | k + 3, h1, _, _, _ => exact absurd h1 (by simp)
theorem app_lt {α : Type} [LT α] [DecidableLT α] [DecidableEq α] : ∀ {l m s t : List α}, l.length = m.length → l ≠ m → (l ++ s < m ++ t ↔ l < m)
  | [], [], _, _, _, h => absurd rfl h
  | a :: l, b :: m, s, t, e, h => by
    rw [List.cons_append, List.cons_append, List.cons_lt_cons_iff, List.cons_lt_cons_iff]
    by_cases hab : a = b
    · subst hab
      have hn : l ≠ m := fun z => h (by rw [z])
      rw [app_lt (by simpa using e) hn]
    · constructor
      · rintro (h | ⟨h, _⟩)
        · exact .inl h
        · exact absurd h hab
      · rintro (h | ⟨h, _⟩)
        · exact .inl h
        · exact absurd h hab
theorem ddK_inj {x y : Dd} (hx : 0 ≤ x.1) (hy : 0 ≤ y.1) (kx : posK x.2.2) (ky : posK y.2.2) (h : ddK x = ddK y) : x = y := by
  unfold ddK at h
  have h1 := (int1_eq hx hy).mp (List.cons.inj h).1
  have h2 := strs_eq.mp (List.cons.inj (List.cons.inj h).2).1
  have h3 := (kKey_eq kx ky).mp (List.cons.inj (List.cons.inj (List.cons.inj h).2).2).1
  obtain ⟨a, b, c⟩ := x
  obtain ⟨a', b', c'⟩ := y
  have h1 : a = a' := h1
  have h2 : b = b' := h2
  have h3 : c = c' := h3
  rw [h1, h2, h3]
theorem mvLt_eq {m n : Mv} (hm : MvOk m) (hn : MvOk n) (c : MvCmp m n) : mvLt m n = if m.1 = n.1 then decide (m.2 < n.2) else ddB m.1 n.1 := by
  have hB := ddB_eq hm.1 hn.1 hm.2.2.1 hn.2.2.1 c
  rw [Bool.eq_iff_iff]
  unfold mvLt mvK
  rw [decide_eq_true_eq]
  by_cases h : m.1 = n.1
  · rw [if_pos h, h, decide_eq_true_eq, ← int1_lt hm.2.1 hn.2.1]
    have e : ∀ (l : List (List Nat)) (a b : List Nat), (l ++ [a] < l ++ [b]) ↔ a < b := fun l a b => by
      induction l with
      | nil =>
        rw [List.nil_append, List.nil_append, List.cons_lt_cons_iff]
        exact ⟨fun h => h.elim id fun h => absurd h.2 (List.lt_irrefl _), .inl⟩
      | cons x r ih =>
        rw [List.cons_append, List.cons_append, List.cons_lt_cons_iff, ih]
        exact ⟨fun h => h.elim (fun h => absurd h (List.lt_irrefl _)) fun h => h.2, fun h => .inr ⟨rfl, h⟩⟩
    exact e _ _ _
  · rw [if_neg h, hB, decide_eq_true_eq]
    exact app_lt rfl fun z => h (ddK_inj hm.1 hn.1 hm.2.2.1 hn.2.2.1 z)
theorem mv_cmp {vs : List Value} {k : Value → Mv} (hp : ∀ v ∈ vs, IsMv s.heap v (k v)) (ok : ∀ v ∈ vs, MvOk (k v)) (cm : ∀ v ∈ vs, ∀ u ∈ vs, MvCmp (k v) (k u)) (hu : A.units + 64 < cLine) : SrtO.Cmp prog w A s (tuples' false) (fun p => p.1 ∈ vs) (SrtO.lt2 fun v u => mvLt (k v) (k u)) := by
  intro p q hm hm'
  have h1 := hp _ hm
  have h2 := hp _ hm'
  have o1 := ok _ hm
  have o2 := ok _ hm'
  have c := cm _ hm _ hm'
  show wpAny (model prog w) A (keyLt' (tuples' false) p.1 q.1) (fun r s' => s' = s ∧ r = mvLt (k p.1) (k q.1)) (fun _ _ => False) s
  rw [mvLt_eq o1 o2 c]
  generalize k p.1 = m at h1 o1 c ⊢
  generalize k q.1 = m2 at h2 o2 c ⊢
  obtain ⟨a, o, n, d, tg, e1, g, cl, dd, pd⟩ := h1
  obtain ⟨a2, o2', n2, d2, tg2, e2, g2, cl2, dd2, pd2⟩ := h2
  rw [e1, e2]
  obtain ⟨as, r1⟩ := pd.reads
  obtain ⟨bs, r2⟩ := pd2.reads
  refine PySem.W.kat_lt g dd g2 dd2 ?_
  show PySem.W.KatLex prog w A false (decide (2 < 2)) _ [(.ref d, .ref d2), (.int m.2 tg, .int m2.2 tg2)] 0 s
  have du : A.units + min (ddD m.1).depth (ddD m2.1).depth < cLine := by
    have e : (ddD m.1).depth ≤ 2 := by
      obtain ⟨⟨c1, w1, k1⟩, g1⟩ := m
      cases k1
      · show max 0 (max 0 (max 0 0)) + 1 ≤ 2; decide
      · show max 0 (max 0 (max 0 0)) + 1 ≤ 2; decide
    omega
  refine PySem.W.kat_cons (eqAt_reads _ _ A s _ _ _ _ r1 r2 o1.2.2.2 o2.2.2.2 du prog w _ _ ?_)
  rw [eqvDd]
  refine PySem.W.kat_go (fun e3 => ?_) (fun e3 => ?_)
  · have e4 : m.1 = m2.1 := of_decide_eq_true e3
    rw [if_pos e4]
    refine PySem.W.kat_yes (PySem.W.kat_cons (EqAt.int_int _ _ _ _ prog w _ _ ?_))
    refine PySem.W.kat_go (fun e5 => ?_) (fun e5 => ?_)
    · have e6 : m.2 = m2.2 := by simpa using e5
      refine PySem.W.kat_yes (PySem.W.kat_nil ⟨rfl, ?_⟩)
      rw [e6]
      exact (decide_eq_false (Int.lt_irrefl _)).symm
    · exact PySem.W.kat_no (PySem.W.kat_one _ _ (PyProof.Rows.lt_int ⟨rfl, rfl⟩))
  · rw [if_neg (of_decide_eq_false e3)]
    exact PySem.W.kat_no (PySem.W.kat_one _ _ (ddLt pd pd2 (by omega) c prog w _ _ ⟨rfl, rfl⟩))
theorem mv_firsts {h : Heap} : ∀ {vs : List Value} {k : Value → Mv}, (∀ v ∈ vs, IsMv h v (k v)) → ∃ fs : List Value, PySem.W.KatTups h vs fs ∧ fs.length = vs.length ∧ ∀ f ∈ fs, ∃ d x, f = Value.ref d ∧ IsDd h d x
  | [], _, _ => ⟨[], PySem.W.KatTups.nil, rfl, fun _ hm => nomatch hm⟩
  | v :: vs, k, hp => by
    obtain ⟨fs, h1, h2, h3⟩ := mv_firsts (vs := vs) (k := k) fun v' hm => hp v' (List.mem_cons_of_mem _ hm)
    obtain ⟨a, o, n, d, tg, e, g, cl, dd, pd⟩ := hp v List.mem_cons_self
    subst e
    refine ⟨.ref d :: fs, PySem.W.KatTups.cons g cl dd rfl h1, by rw [List.length_cons, List.length_cons, h2], fun f hm => ?_⟩
    rcases List.mem_cons.mp hm with rfl | hm
    · exact ⟨d, _, rfl, pd⟩
    · exact h3 f hm
theorem mv_sortable {a : Addr} {vs : List Value} {k : Value → Mv} (h0 : 0 < vs.length) (hp : ∀ v ∈ vs, IsMv s.heap v (k v)) (ok : ∀ v ∈ vs, MvOk (k v)) (cm : ∀ v ∈ vs, ∀ u ∈ vs, MvCmp (k v) (k u)) (hu : A.units + 64 < cLine) (ha : ∀ o, s.heap.get? a = some o → o.cls ≠ .type "tuple") : SrtO.SortableO prog w A s a vs fun v u => mvLt (k v) (k u) := by
  intro h' keep
  have hp' : ∀ v ∈ vs, IsMv h' v (k v) := fun v hm => (hp v hm).keeps fun b o e c => keep b o (fun z => by subst z; exact ha o e c) e
  obtain ⟨fs, h1, h2, h3⟩ := mv_firsts hp'
  refine ⟨tuples' false, fun Q E hq => ?_, mv_cmp (s := { s with heap := h' }) hp' ok cm hu⟩
  refine PySem.W.kat_kind (T := .type "tuple") h1 (by omega) (fun f hm => ?_) (by rfl) ?_
  · obtain ⟨d, x, rfl, o, n, tc, tw, kv, g, cl, _⟩ := h3 f hm
    rw [← cl]
    exact (PySem.W.Looks.ld g).andThen .now
  · have e : (Value.type "tuple" != Value.type "tuple") = false := by first | decide +kernel | rfl | decide
    rw [e]
    exact hq
end
end My
namespace My
open PySem PySem.Spec PyProof.Rows L2
/-- sorted(xs), xs a list of moves (k says which) that may be compared: a new list, sorted -/
def rSortedM (K : PySem.W.Frag) : List V → Hp → VK → Prop := fun vs H Q => ∃ (a : Addr) (xs : List V) (k : V → Mv), vs = [V.ref a] ∧ SqL K H a xs ∧ (∀ x ∈ xs, Dp K H x (mvD (k x)) ∧ MvOk (k x)) ∧ (∀ x ∈ xs, ∀ y ∈ xs, MvCmp (k x) (k y)) ∧
  ∀ ys p, SrtO.Srtd (fun x y => mvLt (k x) (k y)) ys → ys.Perm xs → H p = none → Q (.ref p) (upd H p (.lst ys))
theorem dp_ref {K : PySem.W.Frag} {H : Hp} {v : V} {m : Mv} (h : Dp K H v (mvD m)) : ∃ a, v = .ref a := by
  unfold mvD at h
  cases h
  exact ⟨_, rfl⟩
section
variable {X : Cx}
theorem cr_sortedM (hu : X.A.units + 70 < cLine) : CallR X (.builtin "sorted") (rSortedM X.K) := by
  intro pins s σ H vs us Q I r h
  obtain ⟨a, xs, k, rfl, hs, hx, hc, q⟩ := h
  obtain ⟨its, rv, hl, hz⟩ := I.list hs
  obtain ⟨u, rfl, ru⟩ := vals1 r
  obtain rfl : u = Value.ref a := ru
  obtain ⟨e1, e2⟩ := refs_back rv fun x m => dp_ref (hx x m).1
  have mem : ∀ v ∈ its, backV v ∈ xs ∧ RelV (backV v) v := fun v hv => by
    obtain ⟨t, rfl⟩ := e2 v hv
    exact ⟨by rw [e1]; exact List.mem_map.mpr ⟨_, hv, rfl⟩, rfl⟩
  have mv : ∀ v ∈ its, IsMv s.heap v (k (backV v)) := fun v hv => by
    obtain ⟨m, rr⟩ := mem v hv
    obtain ⟨as, rd⟩ := Dp.reads I _ _ v (hx _ m).1 rr
    exact isMv_of rd
  refine SrtO.sorted_ord (mvLt_swo fun v => k (backV v)) hl.isList (by rw [← rv.length]; exact hz) (fun h2 h₁ a₁ ha kk => ?_) fun out h1 h2 => ?_
  · refine mv_sortable (s := { s with heap := h₁ }) (by omega) (fun v hv => (mv v hv).keeps fun b o e _ => (kk b o e).2) (fun v hv => (hx _ (mem v hv).1).2) (fun v hv u hu2 => hc _ (mem v hv).1 _ (mem u hu2).1) (show X.A.units + 1 + 1 + 64 < cLine by omega) fun o e => ?_
    have e' : some o = some (seqObj "list" its.toArray 0) := e.symm.trans ha
    cases e'
    intro c
    exact absurd (Value.type.inj c) (by decide)
  · have h3 : ∀ u ∈ out, ∃ a, u = Value.ref a := fun u hu => e2 u (h2.perm.mem_iff.mp hu)
    have pb : (out.map backV).Perm xs := by rw [e1]; exact h2.perm.map backV
    have fd : H (s.heap.objs.size + 1) = none := I.hok.fresh (Nat.le_succ _)
    refine ⟨.ref (s.heap.objs.size + 1), upd H (s.heap.objs.size + 1) (.lst (out.map backV)), I.laid (t' := s.toks) (fun b o e => sortedAll_old e) (Nat.le_succ _) ⟨?_, out, _, vals_back h3, (sortedAll_at s.heap its out.toArray).choose_spec⟩, rfl, q _ _ (SrtO.srtd_map h1) pb fd⟩
    rw [pb.length_eq]
    exact hz
end
end My

set_option Elab.async false
set_option linter.all false
set_option maxRecDepth 100000
set_option maxHeartbeats 4000000
/-! ### sorted(xs), xs a list of tuples of alike data of any depth: no item empty, or the first one empty -/
namespace My
open PySem PySem.W PySem.SeqAt PySem.Calls PyProof.Rows
theorem dataLt_swo {α : Type} (k : α → PyData) : SrtO.Swo fun x y => dataLt (k x) (k y) := by
  refine ⟨fun x y h => ?_, fun x y z h1 h2 => ?_⟩
  · cases e : dataLt (k y) (k x) with
    | false => rfl
    | true => exact absurd (lex_trans (O := itemOrd) _ _ _ h e) (by rw [lex_irrefl]; simp)
  · cases e : dataLt (k z) (k x) with
    | false => rfl
    | true =>
      rcases lex_negTrans (O := itemOrd) _ (keyToks (k y)) _ e with c | c
      · exact absurd (c.symm.trans h2) (by simp)
      · exact absurd (c.symm.trans h1) (by simp)
/-- every two of them are tuples of alike data; none is empty, or the first one is -/
def SrtOk {α : Type} (k : α → PyData) (xs : List α) : Prop := (∀ x ∈ xs, ∀ y ∈ xs, alike (k x) (k y) = true) ∧ ((∀ x ∈ xs, ∃ y r, k x = .tuple (y :: r)) ∨ ((∀ x ∈ xs, ∃ r, k x = .tuple r) ∧ ∃ x r, xs = x :: r ∧ k x = .tuple []))
theorem each_map {R : Value → PyData → Prop} {k : Value → PyData} : ∀ {vs : List Value}, (∀ v ∈ vs, R v (k v)) → EachIs R vs (vs.map k)
  | [], _ => .nil
  | v :: vs, h => .cons (h v List.mem_cons_self) (each_map fun u hu => h u (List.mem_cons_of_mem _ hu))
section
variable {prog : Program} {w : World} {A : Around} {E : Value → Shared → Prop} {s : Shared}
theorem call_tuple_lt1 {Q : Value → Shared → Prop} {l b : Addr} {items items2 : Array Value} {e r : Nat → Bool} (hl : s.heap.IsTuple l items) (hb : s.heap.IsTuple b items2)
    (he : ∀ j (h1 : j < items.size) (h2 : j < items2.size), EqAt A.in1 s items[j] items2[j] (e j)) (hr : ∀ j (h1 : j < items.size) (h2 : j < items2.size), e j = false → RcLt A.in1 s items[j] items2[j] (r j))
    (h : Q (.bool (firstLt e r (decide (items.size < items2.size)) (List.range (min items.size items2.size)))) s) : wpAny (model prog w) A (call (.builtin "tuple.__lt__") [.ref l, .ref b]) Q E s := by
  obtain ⟨⟨cls, dd, data, sl⟩, ho, hc, n, hd⟩ := id hl
  obtain ⟨⟨cls2, dd2, data2, sl2⟩, ho2, hc2, n2, hd2⟩ := id hb
  simp only at hc hd hc2 hd2
  subst hc hd hc2 hd2
  exact call_meets F.slot_tuple_lt ⟨_, ho, rfl⟩ F.entry_tuple_lt (F.args_tuple_lt_2 _ _) (PySem.SeqAt.tuple_ltAt l b items items2 n n2 dd dd2 sl sl2 e r) ⟨ho, ho2, he, hr, h⟩
/-- as sorting compares two tuples where they are all of one type -/
theorem oneLt_tup {xs ys : List PyData} {a b : Value} {as bs : List Addr} {Q : Bool → Shared → Prop} (ra : Reads s.heap a (.tuple xs) as) (rb : Reads s.heap b (.tuple ys) bs) (hal : alikeAll xs ys = true) (hu : A.units + 64 < cLine) (h1 : (PyData.tuple xs).depth ≤ 60)
    (hq : Q (dataLt (.tuple xs) (.tuple ys)) s) : wpAny (model prog w) A (keyLt' oneType' a b) Q E s := by
  have hr : A.units + min (PyData.tuple xs).depth (PyData.tuple ys).depth < cLine := by omega
  cases ra with
  | @tuple l o vs n _ as₁ h1 h2 h3 h4 =>
    cases rb with
    | @tuple l' o' vs' n' _ bs₁ k1 k2 k3 k4 =>
      have n1 : vs.size = xs.length := by simpa using ReadsAll.length _ _ _ h4
      have n2 : vs'.size = ys.length := by simpa using ReadsAll.length _ _ _ k4
      rw [dataLt_tuple, ← firstLt_toks xs ys hal, ← n1, ← n2] at hq
      rw [keyLt'_oneType, oneLt'_eq]
      simp only [if_true]
      refine wpAny_bind (wpAny_cRoomFor (by omega) ?_)
      refine wpAny_bind (wpAny_callSpecialIfBound?_slot (T := "tuple") ⟨_, h1, h2⟩ F.slot_tuple_lt (call_tuple_lt1 (e := pairEq xs ys) (r := fun j => dataLt (xs.getD j .none) (ys.getD j .none)) ⟨_, h1, h2, _, h3⟩ ⟨_, k1, k2, _, k3⟩ (fun j j1 j2 => ?_) (fun j j1 j2 hj => ?_) ?_))
      · have := eqAt_alikeAll xs ys A.in1 s vs.toList vs'.toList _ _ h4 k4 hal (room_in hr) j (by simpa using j1) (by simpa using j2)
        simpa using this
      · have := rcLt_alikeAll xs ys A.in1 s vs.toList vs'.toList _ _ h4 k4 hal (room_in hr) j (by simpa using j1) (by simpa using j2) hj
        simpa using this
      · exact wpAny_truthy_bool hq
theorem firsts_any {M : Model} {h : Heap} : ∀ {vs : List Value} {k : Value → PyData}, (∀ v ∈ vs, ∃ as, Reads h v (k v) as) → (∀ v ∈ vs, ∃ r, k v = .tuple r) → ∃ fs : List (Option Value), fs.length = vs.length ∧ (∀ v r, vs = v :: r → k v = .tuple [] → fs[0]? = some none) ∧
    ∀ {A : Around} {E : Value → Shared → Prop} {s : Shared} {Q : List (Option Value) → Shared → Prop}, s.heap = h → Q fs s → wpAny M A (vs.mapM firstOfTuple') Q E s
  | [], _, _, _ => ⟨[], rfl, (fun _ _ e => nomatch e), fun _ hq => by rw [List.mapM_nil]; exact wpAny_pure hq⟩
  | v :: vs, k, hr, ht => by
    obtain ⟨fs, e1, _, e3⟩ := firsts_any (M := M) (vs := vs) (k := k) (fun u hu => hr u (List.mem_cons_of_mem _ hu)) fun u hu => ht u (List.mem_cons_of_mem _ hu)
    obtain ⟨as, ra⟩ := hr v List.mem_cons_self
    obtain ⟨r, er⟩ := ht v List.mem_cons_self
    rw [er] at ra
    cases ra with
    | @tuple a o xs n _ _ ho hc hd hrs =>
      refine ⟨xs[0]? :: fs, by rw [List.length_cons, List.length_cons, e1], fun u q e eu => ?_, fun {A E s Q} hs hq => ?_⟩
      · obtain ⟨rfl, rfl⟩ := List.cons.inj e
        rw [er] at eu
        cases eu
        generalize el : xs.toList = l at hrs
        cases hrs
        have : xs[0]? = none := by rw [← Array.getElem?_toList, el]; rfl
        rw [this]
        rfl
      · subst hs
        rw [List.mapM_cons]
        refine wpAny_bind ?_
        rw [kas_first_eq]
        refine wpAny_bind (Looks.here (show Looks M s.heap (typeOf (.ref a)) o.cls from (Looks.ld ho).andThen .now) ?_)
        rw [hc, if_neg (by first | decide | simp)]
        refine wpAny_bind (listItems_at ho hd (wpAny_pure ?_))
        exact wpAny_bind (e3 (Q := fun bs s' => wpAny M A (pure (xs[0]? :: bs)) Q E s') rfl (wpAny_pure hq))
theorem kind_empty {M : Model} {vs : List Value} {k : Value → PyData} {Q : SortKind → Shared → Prop} (hr : ∀ v ∈ vs, ∃ as, Reads s.heap v (k v) as) (ht : ∀ v ∈ vs, ∃ r, k v = .tuple r) (h0 : ∃ v r, vs = v :: r ∧ k v = .tuple []) (h : Q oneType' s) : wpAny M A (keyKind' vs.toArray) Q E s := by
  obtain ⟨fs, e1, e2, e3⟩ := firsts_any (M := M) hr ht
  obtain ⟨v, r, rfl, ev⟩ := h0
  have e0 := e2 v r rfl ev
  obtain ⟨fr, rfl⟩ : ∃ fr, fs = none :: fr := by
    cases fs with
    | nil => cases e0
    | cons f fr => cases e0; exact ⟨fr, rfl⟩
  rw [kat_kind_eq, List.mapM_toArray, map_eq_pure_bind]
  refine wpAny_bind (wpAny_bind (e3 rfl (wpAny_pure ?_)))
  rw [if_neg (by simp), if_neg (by simp)]
  rw [oneTypeOnly'_eq, List.mapM_toArray, map_eq_pure_bind]
  refine wpAny_bind (wpAny_bind (wpAny_bind (kas_mapM (r := Value.type "tuple") _ (fun u hu Q' hq => ?_) (wpAny_pure ?_))))
  · obtain ⟨as, ra⟩ := hr u hu
    obtain ⟨x, ex⟩ := ht u hu
    rw [ex] at ra
    exact (looks_reads ra).here hq
  · have hall : ((List.map (fun _ => Value.type "tuple") (v :: r)).toArray.all fun x => x == Value.type "tuple") = true := by
      simp only [List.all_toArray, List.all_map, List.all_eq_true]
      intro _ _
      exact beq_self_eq_true _
    have h0 : (List.map (fun _ => Value.type "tuple") (v :: r)).toArray[0]? = some (Value.type "tuple") := by simp
    rw [h0]
    simp only [hall, if_true]
    exact wpAny_pure (wpAny_pure h)
theorem data_sortable {a : Addr} {vs : List Value} {k : Value → PyData} (h0 : 0 < vs.length) (hr : ∀ h' : Heap, (∀ b o, b ≠ a → s.heap.get? b = some o → h'.get? b = some o) → ∀ v ∈ vs, ∃ as, Reads h' v (k v) as) (hd : ∀ v ∈ vs, (k v).depth ≤ 60) (ok : SrtOk k vs) (hu : A.units + 64 < cLine) : SrtO.SortableO prog w A s a vs fun v u => dataLt (k v) (k u) := by
  intro h' keep
  have hr' := hr h' keep
  obtain ⟨hal, hk⟩ := ok
  rcases hk with ht | ⟨ht, he⟩
  · obtain ⟨v₀, m₀⟩ : ∃ v, v ∈ vs := by
      cases vs with
      | nil => simp at h0
      | cons v r => exact ⟨v, List.mem_cons_self⟩
    obtain ⟨x₀, r₀, e₀⟩ := ht v₀ m₀
    have ef : ∀ v ∈ vs, ∀ x r, k v = .tuple (x :: r) → dataType x = dataType x₀ := fun v hv x r e => by
      have q := hal v hv v₀ m₀
      rw [e, e₀] at q
      exact dataType_alike (alike_all_cons (by simpa [alike] using q)).1
    obtain ⟨fs, t1, t2, t3⟩ := each_katTups (each_map (R := fun v d => ∃ as, Reads h' v d as) (k := k) hr') fun d hd' => by
      obtain ⟨v, hv, rfl⟩ := List.mem_map.mp hd'
      exact ht v hv
    refine ⟨tuples' (dataType x₀ != Value.type "tuple"), fun Q E hq => ?_, fun p q hp hq => ?_⟩
    · refine kat_kind (s := { s with heap := h' }) (T := dataType x₀) t1 (by omega) (fun f hf => ?_) (beq_self_eq_true _) hq
      obtain ⟨x, r, as, m1, m2⟩ := t3 f hf
      obtain ⟨v, hv, ev⟩ := List.mem_map.mp m1
      rw [← ef v hv x r ev]
      exact looks_reads m2
    · show wpAny (model prog w) A (keyLt' (tuples' _) p.1 q.1) (fun r s' => s' = _ ∧ r = dataLt (k p.1) (k q.1)) (fun _ _ => False) _
      have hdd := hal _ hp _ hq
      obtain ⟨as, ra⟩ := hr' _ hp
      obtain ⟨bs, rb⟩ := hr' _ hq
      obtain ⟨x1, r1, e1⟩ := ht _ hp
      obtain ⟨x2, r2, e2⟩ := ht _ hq
      have dp := hd _ hp
      have ef1 := ef _ hp x1 r1 e1
      rw [e1] at ra hdd dp
      rw [e2] at rb hdd
      rw [e1, e2]
      have hroom : A.units + min (PyData.tuple (x1 :: r1)).depth (PyData.tuple (x2 :: r2)).depth < cLine := by omega
      generalize p.1 = pv at ra ⊢
      generalize q.1 = qv at rb ⊢
      cases ra with
      | @tuple l o xs n _ _ h1 h2 h3 h4 =>
        cases rb with
        | @tuple l' o' xs' n' _ _ k1 k2 k3 k4 =>
          have n1 : xs.size = (x1 :: r1).length := by simpa using ReadsAll.length _ _ _ h4
          have n2 : xs'.size = (x2 :: r2).length := by simpa using ReadsAll.length _ _ _ k4
          refine kat_lt (s := { s with heap := h' }) h1 h3 k1 k3 (katLex_alike (x1 :: r1) (x2 :: r2) 0 _ _ _ _ h4 k4 (by simpa [alike] using hdd) (by have q := room_in hroom; omega) (fun hb _ x r t ex => ?_) (by rw [n1, n2]) ⟨rfl, (dataLt_tuple _ _).symm⟩)
          obtain ⟨rfl, rfl⟩ := List.cons.inj ex
          rw [← ef1] at hb
          exact dataType_tuple hb t
  · refine ⟨oneType', fun Q E hq => kind_empty (s := { s with heap := h' }) hr' ht he hq, fun p q hp hq => ?_⟩
    show wpAny (model prog w) A (keyLt' oneType' p.1 q.1) (fun r s' => s' = _ ∧ r = dataLt (k p.1) (k q.1)) (fun _ _ => False) _
    have hdd := hal _ hp _ hq
    obtain ⟨as, ra⟩ := hr' _ hp
    obtain ⟨bs, rb⟩ := hr' _ hq
    obtain ⟨r1, e1⟩ := ht _ hp
    obtain ⟨r2, e2⟩ := ht _ hq
    have dp := hd _ hp
    rw [e1] at ra hdd dp
    rw [e2] at rb hdd
    rw [e1, e2]
    exact oneLt_tup (s := { s with heap := h' }) ra rb (by simpa [alike] using hdd) hu dp ⟨rfl, rfl⟩
end
end My
namespace My
open PySem PySem.Spec PyProof.Rows L2
def rSortedD (K : PySem.W.Frag) : List V → Hp → VK → Prop := fun vs H Q => ∃ (a : Addr) (xs : List V) (k : V → PyData), vs = [V.ref a] ∧ SqL K H a xs ∧ (∀ x ∈ xs, Dp K H x (k x) ∧ (k x).depth ≤ 60 ∧ ∃ t, x = .ref t) ∧ SrtOk k xs ∧
  ∀ ys p, SrtO.Srtd (fun x y => PySem.W.dataLt (k x) (k y)) ys → ys.Perm xs → H p = none → Q (.ref p) (upd H p (.lst ys))
section
variable {X : Cx}
theorem cr_sortedD (hu : X.A.units + 70 < cLine) : CallR X (.builtin "sorted") (rSortedD X.K) := by
  intro pins s σ H vs us Q I r h
  obtain ⟨a, xs, k, rfl, hs, hx, hok, q⟩ := h
  obtain ⟨its, rv, hl, hz⟩ := I.list hs
  obtain ⟨u, rfl, ru⟩ := vals1 r
  obtain rfl : u = Value.ref a := ru
  obtain ⟨e1, e2⟩ := refs_back rv fun x m => (hx x m).2.2
  have mem : ∀ v ∈ its, backV v ∈ xs ∧ RelV (backV v) v := fun v hv => by
    obtain ⟨t, rfl⟩ := e2 v hv
    exact ⟨by rw [e1]; exact List.mem_map.mpr ⟨_, hv, rfl⟩, rfl⟩
  have rd : ∀ v ∈ its, ∃ as, Reads s.heap v (k (backV v)) as := fun v hv => by
    obtain ⟨m, rr⟩ := mem v hv
    exact Dp.reads I _ _ v (hx _ m).1 rr
  have ok' : SrtOk (fun v => k (backV v)) its := by
    obtain ⟨p1, p2⟩ := hok
    refine ⟨fun x hx y hy => p1 _ (mem x hx).1 _ (mem y hy).1, ?_⟩
    rcases p2 with p2 | ⟨p2, x, r, ex, e0⟩
    · exact .inl fun x hx => p2 _ (mem x hx).1
    · refine .inr ⟨fun x hx => p2 _ (mem x hx).1, ?_⟩
      rw [e1] at ex
      cases its with
      | nil => cases ex
      | cons v vs =>
        obtain ⟨h1, h2⟩ := List.cons.inj ex
        exact ⟨v, vs, rfl, by rw [← e0, ← h1]⟩
  refine SrtO.sorted_ord (dataLt_swo fun v => k (backV v)) hl.isList (by rw [← rv.length]; exact hz) (fun h2 h₁ a₁ ha kk => ?_) fun out h1 h2 => ?_
  · refine data_sortable (s := { s with heap := h₁ }) (by omega) (fun h' keep v hv => ?_) (fun v hv => (hx _ (mem v hv).1).2.1) ok' (show X.A.units + 1 + 1 + 64 < cLine by omega)
    obtain ⟨as, ra⟩ := rd v hv
    refine ⟨as, Reads.keeps (fun b o e => ?_) ra⟩
    have := kk b o e
    exact keep b o this.1 this.2
  · have h3 : ∀ u ∈ out, ∃ a, u = Value.ref a := fun u hu => e2 u (h2.perm.mem_iff.mp hu)
    have pb : (out.map backV).Perm xs := by rw [e1]; exact h2.perm.map backV
    have fd : H (s.heap.objs.size + 1) = none := I.hok.fresh (Nat.le_succ _)
    refine ⟨.ref (s.heap.objs.size + 1), upd H (s.heap.objs.size + 1) (.lst (out.map backV)), I.laid (t' := s.toks) (fun b o e => sortedAll_old e) (Nat.le_succ _) ⟨?_, out, _, vals_back h3, (sortedAll_at s.heap its out.toArray).choose_spec⟩, rfl, q _ _ (SrtO.srtd_map h1) pb fd⟩
    rw [pb.length_eq]
    exact hz
end
end My

set_option Elab.async false
set_option linter.all false
set_option maxHeartbeats 4000000
/-! ### a search by breadth over moves that may part; the least of the shortest parting rows -/
namespace My.BO
variable {α σ : Type} [DecidableEq σ]
def lx (ι : α → Nat) : List α → List α → Prop
  | a :: u, b :: v => ι a < ι b ∨ (a = b ∧ lx ι u v)
  | _, _ => False
def sl (ι : α → Nat) (u v : List α) : Prop := u.length < v.length ∨ (u.length = v.length ∧ lx ι u v)
section
omit [DecidableEq σ]
variable {ι : α → Nat}
theorem lx_irr : ∀ u : List α, ¬ lx ι u u
  | [], h => h
  | a :: u, h => by
    rcases h with h | ⟨_, h⟩
    · exact Nat.lt_irrefl _ h
    · exact lx_irr u h
theorem lx_trans : ∀ {u v w : List α}, lx ι u v → lx ι v w → lx ι u w
  | a :: u, b :: v, c :: w, h, g => by
    rcases h with h | ⟨rfl, h⟩
    · rcases g with g | ⟨rfl, g⟩
      · exact .inl (Nat.lt_trans h g)
      · exact .inl h
    · rcases g with g | ⟨rfl, g⟩
      · exact .inl g
      · exact .inr ⟨rfl, lx_trans h g⟩
  | [], _, _, h, _ => h.elim
  | _ :: _, [], _, h, _ => h.elim
  | _ :: _, _ :: _, [], _, g => g.elim
theorem lx_app : ∀ {u v : List α} (s t : List α), lx ι u v → lx ι (u ++ s) (v ++ t)
  | a :: u, b :: v, s, t, h => by
    rcases h with h | ⟨rfl, h⟩
    · exact .inl h
    · exact .inr ⟨rfl, lx_app s t h⟩
  | [], _, _, _, h => h.elim
  | _ :: _, [], _, _, h => h.elim
theorem lx_pre : ∀ (p : List α) {u v : List α}, lx ι u v → lx ι (p ++ u) (p ++ v)
  | [], _, _, h => h
  | a :: p, _, _, h => .inr ⟨rfl, lx_pre p h⟩
theorem lx_tri : ∀ {u v : List α}, u.length = v.length → (∀ a ∈ u, ∀ b ∈ v, ι a = ι b → a = b) → lx ι u v ∨ u = v ∨ lx ι v u
  | [], [], _, _ => .inr (.inl rfl)
  | a :: u, b :: v, h, hi => by
    have hl : u.length = v.length := by simpa using h
    rcases Nat.lt_trichotomy (ι a) (ι b) with c | c | c
    · exact .inl (.inl c)
    · have e := hi a List.mem_cons_self b List.mem_cons_self c
      subst e
      rcases lx_tri hl fun x hx y hy => hi x (List.mem_cons_of_mem _ hx) y (List.mem_cons_of_mem _ hy) with d | d | d
      · exact .inl (.inr ⟨rfl, d⟩)
      · exact .inr (.inl (by rw [d]))
      · exact .inr (.inr (.inr ⟨rfl, d⟩))
    · exact .inr (.inr (.inl c))
  | [], _ :: _, h, _ => by simp at h
  | _ :: _, [], h, _ => by simp at h
theorem sl_irr (u : List α) : ¬ sl ι u u := fun h => by
  rcases h with h | ⟨_, h⟩
  · exact Nat.lt_irrefl _ h
  · exact lx_irr u h
theorem sl_trans {u v w : List α} (h : sl ι u v) (g : sl ι v w) : sl ι u w := by
  rcases h with h | ⟨e, h⟩
  · rcases g with g | ⟨f, _⟩
    · exact .inl (Nat.lt_trans h g)
    · exact .inl (f ▸ h)
  · rcases g with g | ⟨f, g⟩
    · exact .inl (e ▸ g)
    · exact .inr ⟨e.trans f, lx_trans h g⟩
theorem sl_tri {u v : List α} (hi : ∀ a ∈ u, ∀ b ∈ v, ι a = ι b → a = b) : sl ι u v ∨ u = v ∨ sl ι v u := by
  rcases Nat.lt_trichotomy u.length v.length with c | c | c
  · exact .inl (.inl c)
  · rcases lx_tri c hi with d | d | d
    · exact .inl (.inr ⟨c, d⟩)
    · exact .inr (.inl d)
    · exact .inr (.inr (.inr ⟨c.symm, d⟩))
  · exact .inr (.inr (.inl c))
theorem sl_snoc {u v : List α} (a b : α) (h : sl ι u v) : sl ι (u ++ [a]) (v ++ [b]) := by
  rcases h with h | ⟨e, h⟩
  · exact .inl (by simpa using h)
  · exact .inr ⟨by simpa using e, lx_app _ _ h⟩
theorem sl_last {u : List α} {a b : α} (h : ι a < ι b) : sl ι (u ++ [a]) (u ++ [b]) := .inr ⟨by simp, lx_pre u (.inl h)⟩
theorem sl_self (u : List α) (a : α) : sl ι u (u ++ [a]) := .inl (by simp)
end
omit [DecidableEq σ] in
theorem snoc_ind {p : List α → Prop} (h0 : p []) (hs : ∀ v z, p v → p (v ++ [z])) (w : List α) : p w := by
  have : ∀ n, ∀ w : List α, w.length = n → p w := by
    intro n
    induction n with
    | zero => intro w hw; rw [List.length_eq_zero_iff.mp hw]; exact h0
    | succ n ih =>
      intro w hw
      have ne : w ≠ [] := by intro e; rw [e] at hw; cases hw
      have e := List.dropLast_concat_getLast ne
      rw [← e]
      exact hs _ _ (ih _ (by rw [List.length_dropLast, hw]; rfl))
  exact this _ w rfl
/-- where a row of moves leads, if each may be made and none parts -/
def runO (mv : σ → List α) (st : σ → α → Option σ) : σ → List α → σ → Prop
  | s, [], x => s = x
  | s, z :: w, x => z ∈ mv s ∧ ∃ t, st s z = some t ∧ runO mv st t w x
/-- a row that parts at its last move -/
def Par (mv : σ → List α) (st : σ → α → Option σ) : σ → List α → Prop
  | _, [] => False
  | s, z :: w => z ∈ mv s ∧ match st s z with
    | none => w = []
    | some t => Par mv st t w
section
variable {ι : α → Nat} {mv : σ → List α} {st : σ → α → Option σ}
omit [DecidableEq σ] in
theorem runO_snoc {z : α} {x : σ} : ∀ {w : List α} {s : σ}, runO mv st s (w ++ [z]) x ↔ ∃ y, runO mv st s w y ∧ z ∈ mv y ∧ st y z = some x
  | [], s => by
    constructor
    · rintro ⟨h, t, e, rfl⟩
      exact ⟨s, rfl, h, e⟩
    · rintro ⟨y, rfl, h, e⟩
      exact ⟨h, x, e, rfl⟩
  | a :: w, s => by
    constructor
    · rintro ⟨h, t, e, r⟩
      obtain ⟨y, r1, r2⟩ := runO_snoc.mp r
      exact ⟨y, ⟨h, t, e, r1⟩, r2⟩
    · rintro ⟨y, ⟨h, t, e, r1⟩, r2⟩
      exact ⟨h, t, e, runO_snoc.mpr ⟨y, r1, r2⟩⟩
omit [DecidableEq σ] in
theorem runO_fun : ∀ {w : List α} {s x y : σ}, runO mv st s w x → runO mv st s w y → x = y
  | [], _, _, _, h, g => by rw [← h, ← g]
  | z :: w, s, x, y, ⟨_, t, e, r⟩, ⟨_, t', e', r'⟩ => by
    rw [e] at e'
    cases e'
    exact runO_fun r r'
omit [DecidableEq σ] in
theorem par_snoc : ∀ {w : List α} {s : σ} {z : α}, Par mv st s (w ++ [z]) ↔ ∃ x, runO mv st s w x ∧ z ∈ mv x ∧ st x z = none
  | [], s, z => by
    constructor
    · rintro ⟨h, g⟩
      refine ⟨s, rfl, h, ?_⟩
      cases e : st s z with
      | none => rfl
      | some t => rw [e] at g; exact g.elim
    · rintro ⟨x, rfl, h, e⟩
      refine ⟨h, ?_⟩
      rw [e]
  | a :: w, s, z => by
    constructor
    · rintro ⟨h, g⟩
      cases e : st s a with
      | none => rw [e] at g; exact absurd g (by simp)
      | some t =>
        rw [e] at g
        obtain ⟨x, r1, r2⟩ := par_snoc.mp g
        exact ⟨x, ⟨h, t, e, r1⟩, r2⟩
    · rintro ⟨x, ⟨h, t, e, r1⟩, r2⟩
      refine ⟨h, ?_⟩
      rw [e]
      exact par_snoc.mpr ⟨x, r1, r2⟩
omit [DecidableEq σ] in
theorem par_app : ∀ {u w : List α} {s x : σ}, runO mv st s u x → Par mv st x w → Par mv st s (u ++ w)
  | [], _, _, _, h, g => by cases h; exact g
  | a :: u, w, s, x, ⟨h, t, e, r⟩, g => by
    refine ⟨h, ?_⟩
    rw [e]
    exact par_app r g
omit [DecidableEq σ] in
theorem par_pos : ∀ {w : List α} {s : σ}, Par mv st s w → 1 ≤ w.length
  | _ :: _, _, _ => by simp
omit [DecidableEq σ] in
theorem par_mem (zs : List α) (hm : ∀ s z, z ∈ mv s → z ∈ zs) : ∀ {w : List α} {s : σ}, Par mv st s w → ∀ z ∈ w, z ∈ zs
  | z :: w, s, ⟨h, g⟩, y, hy => by
    rcases List.mem_cons.mp hy with rfl | hy
    · exact hm s _ h
    · cases e : st s z with
      | none => rw [e] at g; subst g; cases hy
      | some t => rw [e] at g; exact par_mem zs hm g y hy
end
def noteO (st : σ → α → Option σ) (s : σ) (ρ : List α) (g : List (σ × List α)) (z : α) : List (σ × List α) :=
  match st s z with
  | none => g
  | some t => if t ∈ g.map (·.1) then g else g ++ [(t, ρ ++ [z])]
theorem noteO_some {st : σ → α → Option σ} {s : σ} {ρ : List α} {g : List (σ × List α)} {z : α} {t : σ} (e : st s z = some t) : noteO st s ρ g z = if t ∈ g.map (·.1) then g else g ++ [(t, ρ ++ [z])] := by
  unfold noteO
  rw [e]
/-- what a search by breadth keeps: i states are visited, of the i-th one the moves in dn -/
structure BI (ι : α → Nat) (mv : σ → List α) (st : σ → α → Option σ) (f0 : σ) (i : Nat) (dn : List α) (g : List (σ × List α)) : Prop where
  root : g[0]? = some (f0, [])
  nd : (g.map (·.1)).Nodup
  run : ∀ e ∈ g, runO mv st f0 e.2 e.1
  inc : ∀ (a b : Nat) (e e' : σ × List α), a < b → g[a]? = some e → g[b]? = some e' → sl ι e.2 e'.2
  kid : ∀ e ∈ g, e.2 = [] ∨ ∃ (a : Nat) (e' : σ × List α) (y : α), g[a]? = some e' ∧ (a < i ∨ (a = i ∧ y ∈ dn)) ∧ e.2 = e'.2 ++ [y]
  clo : ∀ (j : Nat) (e : σ × List α), g[j]? = some e → ∀ z ∈ mv e.1, (j < i) ∨ (j = i ∧ z ∈ dn) → ∃ t, st e.1 z = some t ∧ ∃ (k : Nat) (e' : σ × List α), g[k]? = some e' ∧ e'.1 = t ∧ (e'.2 = e.2 ++ [z] ∨ sl ι e'.2 (e.2 ++ [z]))
section
variable {ι : α → Nat} {mv : σ → List α} {st : σ → α → Option σ} {f0 : σ}
theorem BI.zero : BI ι mv st f0 0 [] [(f0, [])] := by
  have one : ∀ e ∈ [(f0, ([] : List α))], e = (f0, []) := fun e he => List.mem_singleton.mp he
  refine ⟨rfl, by simp, fun e he => by rw [one e he]; rfl, fun a b e e' ab ea eb => ?_, fun e he => by rw [one e he]; exact .inl rfl, fun j e ej z hz h => ?_⟩
  · have := (List.getElem?_eq_some_iff.mp eb).1
    simp at this
    omega
  · rcases h with h | ⟨_, h⟩
    · omega
    · cases h
theorem BI.note {i : Nat} {s : σ} {ρ dn : List α} {g : List (σ × List α)} {z : α} {t : σ} (h : BI ι mv st f0 i dn g) (ei : g[i]? = some (s, ρ)) (hz : z ∈ mv s) (et : st s z = some t) (ho : ∀ y ∈ dn, ι y < ι z) : BI ι mv st f0 i (dn ++ [z]) (noteO st s ρ g z) ∧ (noteO st s ρ g z)[i]? = some (s, ρ) := by
  have big : ∀ e ∈ g, sl ι e.2 (ρ ++ [z]) := fun e he => by
    rcases h.kid e he with e0 | ⟨a, e', y, ea, hy, e2⟩
    · rw [e0]; exact .inl (by simp)
    · rw [e2]
      rcases hy with ha | ⟨ha, hy⟩
      · exact sl_snoc _ _ (h.inc a i _ _ ha ea ei)
      · subst ha
        rw [ei] at ea
        cases ea
        exact sl_last (ho y hy)
  unfold noteO
  rw [et]
  dsimp only
  by_cases w : t ∈ g.map (·.1)
  · rw [if_pos w]
    refine ⟨⟨h.root, h.nd, h.run, h.inc, fun e he => ?_, fun j e ej y hy hj => ?_⟩, ei⟩
    · rcases h.kid e he with e0 | ⟨a, e', y, ea, hy, e2⟩
      · exact .inl e0
      · exact .inr ⟨a, e', y, ea, hy.imp_right fun x => ⟨x.1, List.mem_append_left _ x.2⟩, e2⟩
    · rcases hj with hj | ⟨rfl, hj⟩
      · exact h.clo j e ej y hy (.inl hj)
      · rcases List.mem_append.mp hj with hj | hj
        · exact h.clo j e ej y hy (.inr ⟨rfl, hj⟩)
        · have := List.mem_singleton.mp hj
          subst this
          rw [ei] at ej
          cases ej
          obtain ⟨e', he', e1⟩ := List.mem_map.mp w
          obtain ⟨k, ek⟩ := List.getElem?_of_mem he'
          exact ⟨t, et, k, e', ek, e1, .inr (big e' he')⟩
  · rw [if_neg w]
    have old : ∀ {k : Nat} {e : σ × List α}, g[k]? = some e → (g ++ [(t, ρ ++ [z])])[k]? = some e := fun {k e} ek => by
      rw [List.getElem?_append_left (List.getElem?_eq_some_iff.mp ek).1]; exact ek
    have new : ∀ {k : Nat} {e : σ × List α}, (g ++ [(t, ρ ++ [z])])[k]? = some e → g[k]? = some e ∨ (k = g.length ∧ e = (t, ρ ++ [z])) := fun {k e} ek => by
      rcases Nat.lt_trichotomy k g.length with x | x | x
      · rw [List.getElem?_append_left x] at ek; exact .inl ek
      · subst x
        rw [List.getElem?_append_right (Nat.le_refl _), Nat.sub_self] at ek
        cases ek
        exact .inr ⟨rfl, rfl⟩
      · rw [List.getElem?_append_right (by omega), List.getElem?_eq_none (by simp; omega)] at ek
        cases ek
    have rin : (s, ρ) ∈ g := List.mem_of_getElem? ei
    refine ⟨⟨old h.root, ?_, fun e he => ?_, fun a b e e' ab ea eb => ?_, fun e he => ?_, fun j e ej y hy hj => ?_⟩, old ei⟩
    · rw [List.map_append]
      refine List.nodup_append.mpr ⟨h.nd, by simp, ?_⟩
      intro a ha b hb e
      have := List.mem_singleton.mp hb
      subst e
      rw [this] at ha
      exact w ha
    · rcases List.mem_append.mp he with he | he
      · exact h.run e he
      · rw [List.mem_singleton.mp he]
        exact runO_snoc.mpr ⟨s, h.run _ rin, hz, et⟩
    · rcases new eb with eb | ⟨hb, rfl⟩
      · rcases new ea with ea | ⟨ha, _⟩
        · exact h.inc a b _ _ ab ea eb
        · have := (List.getElem?_eq_some_iff.mp eb).1
          omega
      · rcases new ea with ea | ⟨ha, _⟩
        · exact big _ (List.mem_of_getElem? ea)
        · omega
    · rcases List.mem_append.mp he with he | he
      · rcases h.kid e he with e0 | ⟨a, e', y, ea, hy, e2⟩
        · exact .inl e0
        · exact .inr ⟨a, e', y, old ea, hy.imp_right fun x => ⟨x.1, List.mem_append_left _ x.2⟩, e2⟩
      · rw [List.mem_singleton.mp he]
        exact .inr ⟨i, _, z, old ei, .inr ⟨rfl, List.mem_append_right _ List.mem_cons_self⟩, rfl⟩
    · have il := (List.getElem?_eq_some_iff.mp ei).1
      have ej' : g[j]? = some e := by
        rcases new ej with x | ⟨x, _⟩
        · exact x
        · rcases hj with hj | hj <;> omega
      rcases hj with hj | ⟨rfl, hj⟩
      · obtain ⟨t', e1, k, e', ek, r⟩ := h.clo j e ej' y hy (.inl hj)
        exact ⟨t', e1, k, e', old ek, r⟩
      · rcases List.mem_append.mp hj with hj | hj
        · obtain ⟨t', e1, k, e', ek, r⟩ := h.clo j e ej' y hy (.inr ⟨rfl, hj⟩)
          exact ⟨t', e1, k, e', old ek, r⟩
        · have := List.mem_singleton.mp hj
          subst this
          rw [ei] at ej'
          cases ej'
          exact ⟨t, et, g.length, _, by rw [List.getElem?_append_right (Nat.le_refl _), Nat.sub_self]; rfl, rfl, .inl rfl⟩
/-- the i-th state is visited whole -/
theorem BI.next {i : Nat} {s : σ} {ρ dn : List α} {g : List (σ × List α)} (h : BI ι mv st f0 i dn g) (ei : g[i]? = some (s, ρ)) (hd : ∀ z ∈ mv s, z ∈ dn) : BI ι mv st f0 (i + 1) [] g := by
  refine ⟨h.root, h.nd, h.run, h.inc, fun x hx => ?_, fun j x ej z hz hj => ?_⟩
  · rcases h.kid x hx with e0 | ⟨a, e', y, ea, hy, e2⟩
    · exact .inl e0
    · refine .inr ⟨a, e', y, ea, .inl ?_, e2⟩
      rcases hy with hy | ⟨hy, _⟩ <;> omega
  · rcases hj with hj | ⟨_, hj⟩
    · by_cases w : j = i
      · subst w
        rw [ei] at ej
        cases ej
        exact h.clo j _ ei z hz (.inr ⟨rfl, hd z hz⟩)
      · exact h.clo j x ej z hz (.inl (by omega))
    · cases hj
/-- each row that comes ahead of the i-th one leads to a state that is found ahead of the i-th -/
theorem BI.least {i : Nat} {dn : List α} {g : List (σ × List α)} {s : σ} {ρ : List α} (h : BI ι mv st f0 i dn g) (ei : g[i]? = some (s, ρ)) (w : List α) : ∀ x, runO mv st f0 w x → sl ι w ρ → ∃ (j : Nat) (e : σ × List α), j < i ∧ g[j]? = some e ∧ e.1 = x ∧ (e.2 = w ∨ sl ι e.2 w) := by
  refine snoc_ind (p := fun w => ∀ x, runO mv st f0 w x → sl ι w ρ → ∃ (j : Nat) (e : σ × List α), j < i ∧ g[j]? = some e ∧ e.1 = x ∧ (e.2 = w ∨ sl ι e.2 w)) ?_ ?_ w
  · intro x hx hs
    cases hx
    refine ⟨0, _, ?_, h.root, rfl, .inl rfl⟩
    rcases Nat.eq_zero_or_pos i with r | r
    · subst r
      have := h.root
      rw [ei] at this
      cases this
      exact absurd hs (sl_irr _)
    · exact r
  · intro v z ih x hx hs
    obtain ⟨y, hy, hz, et⟩ := runO_snoc.mp hx
    obtain ⟨j, e, ji, ej, e1, e2⟩ := ih y hy (sl_trans (sl_self v z) hs)
    obtain ⟨t, et', k, e', ek, f1, f2⟩ := h.clo j e ej z (by rw [e1]; exact hz) (.inl ji)
    rw [e1, et] at et'
    cases et'
    have le : e'.2 = v ++ [z] ∨ sl ι e'.2 (v ++ [z]) := by
      have a : e.2 ++ [z] = v ++ [z] ∨ sl ι (e.2 ++ [z]) (v ++ [z]) := e2.imp (fun q => by rw [q]) fun q => sl_snoc _ _ q
      rcases f2 with f2 | f2
      · rw [f2]; exact a
      · rcases a with a | a
        · rw [a] at f2; exact .inr f2
        · exact .inr (sl_trans f2 a)
    have lt : sl ι e'.2 ρ := by
      rcases le with le | le
      · rw [le]; exact hs
      · exact sl_trans le hs
    refine ⟨k, e', ?_, ek, f1, le⟩
    rcases Nat.lt_trichotomy k i with r | r | r
    · exact r
    · subst r
      rw [ei] at ek
      cases ek
      exact absurd lt (sl_irr _)
    · exact absurd (sl_trans lt (h.inc i k _ _ r ei ek)) (sl_irr _)
/-- the least of the shortest parting rows -/
def Least (ι : α → Nat) (mv : σ → List α) (st : σ → α → Option σ) (f0 : σ) (r : List α) : Prop := Par mv st f0 r ∧ ∀ w, Par mv st f0 w → w = r ∨ sl ι r w
omit [DecidableEq σ] in
theorem Least.one {r r' : List α} (h : Least ι mv st f0 r) (h' : Least ι mv st f0 r') : r = r' := by
  rcases h.2 _ h'.1 with e | e
  · exact e.symm
  · rcases h'.2 _ h.1 with e' | e'
    · exact e'
    · exact absurd (sl_trans e e') (sl_irr _)
theorem BI.parts {zs : List α} (hi : ∀ a ∈ zs, ∀ b ∈ zs, ι a = ι b → a = b) (hm : ∀ s z, z ∈ mv s → z ∈ zs) {i : Nat} {s : σ} {ρ dn : List α} {g : List (σ × List α)} {z : α} (h : BI ι mv st f0 i dn g) (ei : g[i]? = some (s, ρ)) (hz : z ∈ mv s) (et : st s z = none)
    (hd : ∀ y ∈ mv s, ι y < ι z → y ∈ dn) : Least ι mv st f0 (ρ ++ [z]) := by
  have pr : Par mv st f0 (ρ ++ [z]) := par_snoc.mpr ⟨s, h.run _ (List.mem_of_getElem? ei), hz, et⟩
  refine ⟨pr, fun w hw => ?_⟩
  have ne : w ≠ [] := by rintro rfl; exact hw
  obtain ⟨v, y, rfl⟩ : ∃ v y, w = v ++ [y] := ⟨_, _, (List.dropLast_concat_getLast ne).symm⟩
  obtain ⟨x, hx, hy, ey⟩ := par_snoc.mp hw
  have mw := par_mem zs hm hw
  have mp := par_mem zs hm pr
  rcases sl_tri (u := v) (v := ρ) (fun a ha b hb => hi a (mw a (List.mem_append_left _ ha)) b (mp b (List.mem_append_left _ hb))) with c | c | c
  · obtain ⟨j, e, ji, ej, e1, _⟩ := h.least ei v x hx c
    subst e1
    obtain ⟨t, et', _⟩ := h.clo j e ej y hy (.inl ji)
    rw [ey] at et'
    cases et'
  · subst c
    have := runO_fun hx (h.run _ (List.mem_of_getElem? ei))
    dsimp only at this
    subst this
    rcases Nat.lt_trichotomy (ι y) (ι z) with c | c | c
    · obtain ⟨t, et', _⟩ := h.clo i _ ei y hy (.inr ⟨rfl, hd y hy c⟩)
      dsimp only at et'
      rw [ey] at et'
      cases et'
    · have := hi y (mw y (by simp)) z (mp z (by simp)) c
      subst this
      exact .inl rfl
    · exact .inr (sl_last c)
  · exact .inr (sl_snoc _ _ c)
theorem BI.none {i : Nat} {dn : List α} {g : List (σ × List α)} (h : BI ι mv st f0 i dn g) (hl : g.length ≤ i) : ∀ w, ¬ Par mv st f0 w := by
  have all : ∀ w x, runO mv st f0 w x → ∃ e ∈ g, e.1 = x := by
    intro w
    refine snoc_ind (p := fun w => ∀ x, runO mv st f0 w x → ∃ e ∈ g, e.1 = x) ?_ ?_ w
    · intro x hx
      cases hx
      exact ⟨_, List.mem_of_getElem? h.root, rfl⟩
    · intro v z ih x hx
      obtain ⟨y, hy, hz, et⟩ := runO_snoc.mp hx
      obtain ⟨e, he, rfl⟩ := ih y hy
      obtain ⟨j, ej⟩ := List.getElem?_of_mem he
      obtain ⟨t, et', k, e', ek, f1, _⟩ := h.clo j e ej z hz (.inl (by have := (List.getElem?_eq_some_iff.mp ej).1; omega))
      rw [et] at et'
      cases et'
      exact ⟨e', List.mem_of_getElem? ek, f1⟩
  intro w hw
  have ne : w ≠ [] := by rintro rfl; exact hw
  obtain ⟨v, y, rfl⟩ : ∃ v y, w = v ++ [y] := ⟨_, _, (List.dropLast_concat_getLast ne).symm⟩
  obtain ⟨x, hx, hy, ey⟩ := par_snoc.mp hw
  obtain ⟨e, he, rfl⟩ := all v x hx
  obtain ⟨j, ej⟩ := List.getElem?_of_mem he
  obtain ⟨t, et', _⟩ := h.clo j e ej y hy (.inl (by have := (List.getElem?_eq_some_iff.mp ej).1; omega))
  rw [ey] at et'
  cases et'
end
/-! the same by distances: each state's shortest parting row, and the first move that fits -/
/-- the shortest parting rows from s have t moves -/
def Dst (mv : σ → List α) (st : σ → α → Option σ) (s : σ) (t : Nat) : Prop := (∃ w, Par mv st s w ∧ w.length = t) ∧ ∀ w, Par mv st s w → t ≤ w.length
/-- move z at s is the first of a row of t + 1 moves that parts -/
def Fit (mv : σ → List α) (st : σ → α → Option σ) (s : σ) (t : Nat) (z : α) : Prop := match st s z with
  | none => t = 0
  | some x => 1 ≤ t ∧ Dst mv st x t
section
variable {ι : α → Nat} {mv : σ → List α} {st : σ → α → Option σ} {f0 : σ}
omit [DecidableEq σ] in
theorem Dst.fun_ {s : σ} {t t' : Nat} (h : Dst mv st s t) (h' : Dst mv st s t') : t = t' := by
  obtain ⟨⟨w, p, e⟩, l⟩ := h
  obtain ⟨⟨w', p', e'⟩, l'⟩ := h'
  have := l _ p'
  have := l' _ p
  omega
omit [DecidableEq σ] in
theorem Dst.ex {s : σ} : ∀ {w : List α}, Par mv st s w → ∃ t, Dst mv st s t ∧ t ≤ w.length := by
  have : ∀ n (w : List α), w.length = n → Par mv st s w → ∃ t, Dst mv st s t ∧ t ≤ w.length := by
    intro n
    induction n using Nat.strongRecOn with
    | _ n ih =>
      intro w hw hp
      by_cases h : ∃ v, Par mv st s v ∧ v.length < n
      · obtain ⟨v, hv, hl⟩ := h
        obtain ⟨t, ht, hl'⟩ := ih _ hl v rfl hv
        exact ⟨t, ht, by omega⟩
      · refine ⟨n, ⟨⟨w, hp, hw⟩, fun v hv => ?_⟩, by omega⟩
        rcases Nat.lt_or_ge v.length n with c | c
        · exact absurd ⟨v, hv, c⟩ h
        · exact c
  exact fun {w} h => this _ w rfl h
omit [DecidableEq σ] in
theorem Dst.pos {s : σ} {t : Nat} (h : Dst mv st s t) : 1 ≤ t := by
  obtain ⟨⟨w, p, e⟩, _⟩ := h
  have := par_pos p
  omega
omit [DecidableEq σ] in
/-- a state is t + 1 from parting exactly if it isn't nearer and some move fits -/
theorem dst_iff {s : σ} {t : Nat} : Dst mv st s (t + 1) ↔ (∀ k, k ≤ t → ¬ Dst mv st s k) ∧ ∃ z ∈ mv s, Fit mv st s t z := by
  constructor
  · intro h
    refine ⟨fun k hk hd => by have := h.fun_ hd; omega, ?_⟩
    obtain ⟨⟨w, p, e⟩, l⟩ := h
    cases w with
    | nil => exact p.elim
    | cons z w =>
      obtain ⟨hz, g⟩ := p
      refine ⟨z, hz, ?_⟩
      unfold Fit
      cases e1 : st s z with
      | none =>
        rw [e1] at g
        subst g
        simpa using e.symm
      | some x =>
        rw [e1] at g
        have hw : w.length = t := by simpa using e
        have := par_pos g
        refine ⟨by omega, ⟨w, g, hw⟩, fun v hv => ?_⟩
        have := l (z :: v) ⟨hz, by rw [e1]; exact hv⟩
        simpa using this
  · rintro ⟨hn, z, hz, hf⟩
    obtain ⟨w, hw, hl⟩ : ∃ w, Par mv st s w ∧ w.length = t + 1 := by
      unfold Fit at hf
      cases e1 : st s z with
      | none =>
        rw [e1] at hf
        exact ⟨[z], ⟨hz, by rw [e1]⟩, by simp [hf]⟩
      | some x =>
        rw [e1] at hf
        obtain ⟨_, ⟨w, hw, hl⟩, _⟩ := hf
        exact ⟨z :: w, ⟨hz, by rw [e1]; exact hw⟩, by simp [hl]⟩
    refine ⟨⟨w, hw, hl⟩, fun v hv => ?_⟩
    obtain ⟨t', ht', hl'⟩ := Dst.ex hv
    rcases Nat.lt_or_ge t t' with c | c
    · omega
    · exact absurd ht' (hn t' c)
omit [DecidableEq σ] in
/-- without a state t from parting there is none further -/
theorem dst_down {s : σ} {k : Nat} : ∀ {d : Nat}, Dst mv st s (k + 1 + d) → ∃ x w, runO mv st s w x ∧ Dst mv st x (k + 1) := by
  intro d
  induction d generalizing s with
  | zero => exact fun h => ⟨s, [], rfl, h⟩
  | succ d ih =>
    intro h
    obtain ⟨z, hz, hf⟩ := (dst_iff.mp (show Dst mv st s ((k + 1 + d) + 1) from h)).2
    unfold Fit at hf
    cases e1 : st s z with
    | none => rw [e1] at hf; dsimp only at hf; omega
    | some x =>
      rw [e1] at hf
      obtain ⟨y, w, hr, hy⟩ := ih hf.2
      exact ⟨y, z :: w, ⟨hz, x, e1, hr⟩, hy⟩
/-- z is the first of the list that fits -/
def Fst (l : List α) (p : α → Prop) (z : α) : Prop := ∃ u v, l = u ++ z :: v ∧ p z ∧ ∀ y ∈ u, ¬ p y
/-- the row of the first moves that fit -/
def Grd (mv : σ → List α) (st : σ → α → Option σ) : σ → Nat → List α → Prop
  | _, 0, w => w = []
  | s, t + 1, w => ∃ z w', w = z :: w' ∧ Fst (mv s) (Fit mv st s t) z ∧ match st s z with
    | none => w' = []
    | some x => Grd mv st x t w'
omit [DecidableEq σ] in
theorem grd_least (ho : ∀ s, (mv s).Pairwise (fun a b => ι a < ι b)) : ∀ {t : Nat} {s : σ} {w : List α}, Dst mv st s t → Grd mv st s t w → Par mv st s w ∧ w.length = t ∧ ∀ v, Par mv st s v → v.length = t → v = w ∨ lx ι w v
  | 0, s, w, hd, hg => absurd hd.pos (by omega)
  | t + 1, s, w, hd, hg => by
    obtain ⟨z, w', rfl, ⟨u, r, em, hf, hu⟩, g⟩ := hg
    have hz : z ∈ mv s := by rw [em]; simp
    have later : ∀ y ∈ mv s, Fit mv st s t y → y = z ∨ ι z < ι y := fun y hy hfy => by
      rw [em] at hy
      rcases List.mem_append.mp hy with hy | hy
      · exact absurd hfy (hu y hy)
      · rcases List.mem_cons.mp hy with hy | hy
        · exact .inl hy
        · have := ho s
          rw [em] at this
          exact .inr ((List.pairwise_cons.mp (List.pairwise_append.mp this).2.1).1 y hy)
    have fits : ∀ y v, Par mv st s (y :: v) → (y :: v).length = t + 1 → Fit mv st s t y := fun y v hp hl => by
      obtain ⟨hy, g2⟩ := hp
      unfold Fit
      have hl : v.length = t := by simpa using hl
      cases e1 : st s y with
      | none => rw [e1] at g2; subst g2; simpa using hl.symm
      | some x =>
        rw [e1] at g2
        have := par_pos g2
        refine ⟨by omega, ⟨v, g2, hl⟩, fun v' hv' => ?_⟩
        have := hd.2 (y :: v') ⟨hy, by rw [e1]; exact hv'⟩
        simpa using this
    cases e1 : st s z with
    | none =>
      rw [e1] at g
      subst g
      unfold Fit at hf
      rw [e1] at hf
      dsimp only at hf
      subst hf
      refine ⟨⟨hz, by rw [e1]⟩, rfl, fun v hv hl => ?_⟩
      cases v with
      | nil => cases hl
      | cons y v =>
        have : v = [] := List.length_eq_zero_iff.mp (by simpa using hl)
        subst this
        rcases later y hv.1 (fits y [] hv hl) with e | e
        · exact .inl (by rw [e])
        · exact .inr (.inl e)
    | some x =>
      rw [e1] at g
      have hf' := hf
      unfold Fit at hf'
      rw [e1] at hf'
      obtain ⟨p1, p2, p3⟩ := grd_least ho hf'.2 g
      refine ⟨⟨hz, by rw [e1]; exact p1⟩, by simp [p2], fun v hv hl => ?_⟩
      cases v with
      | nil => cases hl
      | cons y v =>
        rcases later y hv.1 (fits y v hv hl) with e | e
        · subst e
          obtain ⟨_, g2⟩ := hv
          rw [e1] at g2
          rcases p3 v g2 (by simpa using hl) with q | q
          · exact .inl (by rw [q])
          · exact .inr (.inr ⟨rfl, q⟩)
        · exact .inr (.inl e)
omit [DecidableEq σ] in
theorem grd_is (ho : ∀ s, (mv s).Pairwise (fun a b => ι a < ι b)) {t : Nat} {w : List α} (hd : Dst mv st f0 t) (hg : Grd mv st f0 t w) : Least ι mv st f0 w := by
  obtain ⟨p1, p2, p3⟩ := grd_least ho hd hg
  refine ⟨p1, fun v hv => ?_⟩
  have := hd.2 v hv
  by_cases e : v.length = t
  · rcases p3 v hv e with q | q
    · exact .inl q
    · exact .inr (.inr ⟨by omega, q⟩)
  · exact .inr (.inl (by omega))
end
end My.BO

set_option Elab.async false
set_option linter.all false
set_option maxRecDepth 100000
set_option maxHeartbeats 4000000
/-! ### slices and sums of any tuples, as their callers read them -/
namespace My
open PySem L2
theorem cut_to (xs : List V) (k : Nat) : cutV xs none (some (k : Int)) = xs.take k := by
  unfold cutV
  rw [HT.sIx_none, HT.sIx_nat, List.drop_zero, Nat.sub_zero]
  by_cases h : k ≤ xs.length
  · rw [Nat.min_eq_left h]
  · rw [Nat.min_eq_right (by omega), List.take_length, List.take_of_length_le (by omega)]
theorem cut_from (xs : List V) (k : Nat) : cutV xs (some (k : Int)) none = xs.drop k := by
  unfold cutV
  rw [HT.sIx_none, HT.sIx_nat]
  by_cases h : k ≤ xs.length
  · rw [Nat.min_eq_left h, List.take_of_length_le (by rw [List.length_drop]; omega)]
  · rw [Nat.min_eq_right (by omega), List.drop_length, List.drop_of_length_le (by omega), List.take_nil]
section
variable {K : PySem.W.Frag} {H : Hp} {a b : Addr} {xs ys : List V} {Q : VK} {k : Nat} {i : Int}
theorem slA_to (e : i = (k : Nat)) (h : H a = some (.tup xs)) (q : ∀ r H', H' r = some (.tup (xs.take k)) → Kp [] H H' → Q (.ref r) H') : rSlA K (.ref a) none (some i) H Q := by
  subst e
  refine ⟨a, xs, rfl, sq_t h, fun z => q a H ?_ (Kp.refl _ _), fun _ p np => q p _ (by rw [upd_same, cut_to]) (Kp.new np)⟩
  have z2 := z.2
  rw [HT.sIx_nat] at z2
  rw [h, List.take_of_length_le (by omega)]
theorem slA_from (e : i = (k : Nat)) (h : H a = some (.tup xs)) (q : ∀ r H', H' r = some (.tup (xs.drop k)) → Kp [] H H' → Q (.ref r) H') : rSlA K (.ref a) (some i) none H Q := by
  subst e
  refine ⟨a, xs, rfl, sq_t h, fun z => q a H ?_ (Kp.refl _ _), fun _ p np => q p _ (by rw [upd_same, cut_from]) (Kp.new np)⟩
  have z1 := z.1
  rw [HT.sIx_nat] at z1
  by_cases h0 : k = 0
  · rw [h, h0]; rfl
  · have : xs = [] := List.eq_nil_of_length_eq_zero (by omega)
    rw [h, this, List.drop_nil]
theorem catA_use (ha : H a = some (.tup xs)) (hb : H b = some (.tup ys)) (hl : xs.length + ys.length ≤ 1000) (q : ∀ r H', H' r = some (.tup (xs ++ ys)) → Kp [] H H' → Q (.ref r) H') : rCatA K (.ref a) (.ref b) H Q := by
  refine ⟨a, b, xs, ys, rfl, rfl, sq_t ha, sq_t hb, small (by omega), fun e => q b H ?_ (Kp.refl _ _), fun _ e => q a H ?_ (Kp.refl _ _), fun _ _ p np => q p _ upd_same (Kp.new np)⟩
  · rw [hb, e]; rfl
  · rw [ha, e, List.append_nil]
end
end My

set_option Elab.async false
set_option linter.all false
set_option maxRecDepth 100000
set_option maxHeartbeats 4000000
/-! ### dicts whose keys are tuples of tuples (of ints, texts and None) -/
namespace My
open PySem L2
mutual
/-- the value v is the nested key k, its tuples as they stand in H -/
inductive NkAt (H : Hp) : V → NestedKey → Prop where
  | non : NkAt H .non .none
  | int (i : Int) : NkAt H (.int i) (.num i)
  | str (x : Str) : NkAt H (.str x) (.text x)
  | tup {a : Addr} {xs : List V} {ks : List NestedKey} (e : H a = some (.tup xs)) (h : NkAll H xs ks) : NkAt H (.ref a) (.tup ks)
inductive NkAll (H : Hp) : List V → List NestedKey → Prop where
  | nil : NkAll H [] []
  | cons {v : V} {k : NestedKey} {vs : List V} {ks : List NestedKey} (h : NkAt H v k) (t : NkAll H vs ks) : NkAll H (v :: vs) (k :: ks)
end
mutual
theorem NkAt.tp {H H' : Hp} (ht : ∀ b ys, H b = some (.tup ys) → H' b = some (.tup ys)) : ∀ {v : V} {k : NestedKey}, NkAt H v k → NkAt H' v k
  | _, _, .non => .non
  | _, _, .int i => .int i
  | _, _, .str x => .str x
  | _, _, .tup e h => .tup (ht _ _ e) (NkAll.tp ht h)
theorem NkAll.tp {H H' : Hp} (ht : ∀ b ys, H b = some (.tup ys) → H' b = some (.tup ys)) : ∀ {vs : List V} {ks : List NestedKey}, NkAll H vs ks → NkAll H' vs ks
  | _, _, .nil => .nil
  | _, _, .cons h t => .cons (NkAt.tp ht h) (NkAll.tp ht t)
end
mutual
theorem nk_is {P : Program} {w : World} {H : Hp} {h : Heap} (ok : HOk P w H h) : ∀ {v : V} {k : NestedKey} {u : Value}, NkAt H v k → RelV v u → NestedIs h k u
  | _, _, u, .non, r => by
    obtain rfl : u = Value.none := r
    exact .none
  | _, _, u, .int i, r => by
    obtain ⟨t, rfl⟩ := (show ∃ t, u = Value.int i t from r)
    exact .int i t
  | _, _, u, .str x, r => by
    obtain ⟨t, rfl⟩ := (show ∃ t, u = Value.str x t from r)
    exact .text x t
  | _, _, u, .tup (a := a) (xs := xs) e h, r => by
    obtain rfl : u = Value.ref a := r
    obtain ⟨_, its, rv, o, h1, h2, n, h3⟩ := (show ObjOk P w H _ a (.tup xs) from ok a _ e)
    exact .tup h1 h2 h3 (by simpa using nka_is ok h rv)
theorem nka_is {P : Program} {w : World} {H : Hp} {h : Heap} (ok : HOk P w H h) : ∀ {vs : List V} {ks : List NestedKey} {us : List Value}, NkAll H vs ks → Vals vs us → NestedAll h ks us
  | _, _, _, .nil, .nil => .nil
  | _, _, _, .cons a t, .cons r rs => .cons (nk_is ok a r) (nka_is ok t rs)
end
abbrev NE := NestedKey × Addr × V
/-- the entries as told, and as they stand -/
abbrev NRel (xs : List NE) (ys : List (NestedKey × Addr × Value)) : Prop := Paired (fun x y => y.1 = x.1 ∧ y.2.1 = x.2.1 ∧ RelV x.2.2 y.2.2) xs ys
def DnO (P : Program) (w : World) (d : Addr) (xs : List NE) : HO := .ext fun h => xs.length ≤ sizeLine ∧ (d == sysModules) = false ∧ ∃ o es ep ys, NRel xs ys ∧ h.get? d = some o ∧ o.ExactDict ∧ o.data = .dict es ep ∧ es.toList = ys.map (entryOfKey (nestedKind P w)) ∧ (ys.map (·.1)).Nodup
/-- the keys' tuples stand -/
def NKeys (H : Hp) (xs : List NE) : Prop := ∀ x ∈ xs, NkAt H (.ref x.2.1) x.1 ∧ x.1.depth ≤ 8
/-- at d a dict with the nested keys and values kvs (the empty one is of every kind) -/
def DnAt (P : Program) (w : World) (H : Hp) (d : Addr) (kvs : List (NestedKey × V)) : Prop := (H d = some (.dK []) ∧ kvs = []) ∨ ∃ xs, H d = some (DnO P w d xs) ∧ xs.map (fun x => (x.1, x.2.2)) = kvs ∧ NKeys H xs
def valN (kvs : List (NestedKey × V)) (k : NestedKey) : Option V := (kvs.find? fun p => decide (p.1 = k)).map (·.2)
def putN (kvs : List (NestedKey × V)) (k : NestedKey) (v : V) : List (NestedKey × V) := if (valN kvs k).isSome then kvs.map (fun p => if p.1 = k then (p.1, v) else p) else kvs ++ [(k, v)]
def putX (xs : List NE) (k : NestedKey) (a : Addr) (v : V) : List NE := if (valN (xs.map fun x => (x.1, x.2.2)) k).isSome then xs.map (fun x => if x.1 = k then (x.1, x.2.1, v) else x) else xs ++ [(k, a, v)]
theorem NRel.val {xs : List NE} {ys : List (NestedKey × Addr × Value)} (r : NRel xs ys) (k : NestedKey) : RelO (valN (xs.map fun x => (x.1, x.2.2)) k) ((atKey ys k).map (·.2)) := by
  induction r with
  | nil => exact True.intro
  | @cons x y xs ys h t ih =>
    unfold valN atKey at ih ⊢
    rw [List.map_cons, List.find?_cons, List.find?_cons]
    by_cases e : x.1 = k
    · rw [decide_eq_true e, decide_eq_true (h.1.trans e)]
      exact h.2.2
    · rw [decide_eq_false e, decide_eq_false (fun z => e (h.1.symm.trans z))]
      exact ih
theorem NRel.repl {xs : List NE} {ys : List (NestedKey × Addr × Value)} (r : NRel xs ys) (k : NestedKey) {v : V} {u : Value} (rv : RelV v u) : NRel (xs.map (fun x => if x.1 = k then (x.1, x.2.1, v) else x)) (ys.map (putAt k u)) := by
  induction r with
  | nil => exact .nil
  | @cons x y xs ys h t ih =>
    rw [List.map_cons, List.map_cons]
    refine .cons ?_ ih
    unfold putAt
    by_cases e : x.1 = k
    · rw [if_pos e, if_pos (h.1.trans e)]
      exact ⟨h.1, h.2.1, rv⟩
    · rw [if_neg e, if_neg (fun z => e (h.1.symm.trans z))]
      exact h
theorem NRel.put {xs : List NE} {ys : List (NestedKey × Addr × Value)} (r : NRel xs ys) (k : NestedKey) (a : Addr) {v : V} {u : Value} (rv : RelV v u) : NRel (putX xs k a v) (storedH ys k a u) := by
  have e : (valN (xs.map fun x => (x.1, x.2.2)) k).isSome = (atKey ys k).isSome := by
    rw [(r.val k).isSome_eq, Option.isSome_map]
  unfold putX storedH
  rw [e]
  by_cases q : (atKey ys k).isSome = true
  · rw [if_pos q, if_pos q]; exact r.repl k rv
  · rw [if_neg q, if_neg q]; exact Paired.snoc r ⟨rfl, rfl, rv⟩
theorem putX_kvs {xs : List NE} {k : NestedKey} {a : Addr} {v : V} : (putX xs k a v).map (fun x => (x.1, x.2.2)) = putN (xs.map fun x => (x.1, x.2.2)) k v := by
  unfold putX putN
  split
  · rw [List.map_map, List.map_map]
    refine List.map_congr_left fun x _ => ?_
    by_cases h : x.1 = k <;> simp [h]
  · simp
theorem putX_len (xs : List NE) (k : NestedKey) (a : Addr) (v : V) : (putX xs k a v).length ≤ xs.length + 1 := by
  unfold putX
  split
  · rw [List.length_map]; omega
  · simp
theorem NKeys.put {H : Hp} {xs : List NE} {k : NestedKey} {a : Addr} {v : V} (h : NKeys H xs) (hk : NkAt H (.ref a) k) (hd : k.depth ≤ 8) : NKeys H (putX xs k a v) := by
  intro x hx
  unfold putX at hx
  split at hx
  · obtain ⟨y, hy, rfl⟩ := List.mem_map.mp hx
    have := h y hy
    by_cases e : y.1 = k
    · rw [if_pos e]; exact this
    · rw [if_neg e]; exact this
  · rcases List.mem_append.mp hx with hx | hx
    · exact h x hx
    · rw [List.mem_singleton.mp hx]; exact ⟨hk, hd⟩
section
variable {P : Program} {w : World} {H : Hp} {h : Heap} {d : Addr} {kvs : List (NestedKey × V)}
theorem dn_rd (ok : HOk P w H h) (e : DnAt P w H d kvs) : kvs.length ≤ sizeLine ∧ (d == sysModules) = false ∧ Mut (H d) ∧ ∃ xs ys, xs.map (fun x => (x.1, x.2.2)) = kvs ∧ NKeys H xs ∧ NRel xs ys ∧ h.DictOfH (nestedKind P w) d ys := by
  rcases e with ⟨e, rfl⟩ | ⟨xs, e, rfl, hk⟩
  · obtain ⟨_, hd, vs, rel, o, es, ep, h1, h2, h3, h4, h5, h6⟩ := dk_of ok e
    refine ⟨Nat.zero_le _, hd, by rw [e]; exact True.intro, [], [], rfl, (fun _ h => nomatch h), .nil, o, es, ep, h1, h2, h3, ?_, (fun _ h => nomatch h), List.nodup_nil⟩
    cases rel
    generalize hl : es.toList = l at h5
    cases h5
    rfl
  · obtain ⟨⟨z, hd, o, es, ep, ys, r, h1, h2, h3, h4, h5⟩, _, _⟩ := (show ObjOk P w H h d (DnO P w d xs) from ok d _ e)
    refine ⟨by rw [List.length_map]; exact z, hd, by rw [e]; exact True.intro, xs, ys, rfl, hk, r, o, es, ep, h1, h2, h3, h4, fun y hy => ?_, h5⟩
    have all : ∀ {xs : List NE} {ys : List (NestedKey × Addr × Value)}, NRel xs ys → NKeys H xs → ∀ y ∈ ys, (nestedKind P w).is h y.1 y.2.1 := by
      intro xs ys q
      induction q with
      | nil => intro _ y hy; exact nomatch hy
      | @cons x y xs ys hq t ih =>
        intro hk y' hy
        rcases List.mem_cons.mp hy with e | hy
        · subst e
          have := hk x List.mem_cons_self
          rw [hq.1, hq.2.1]
          exact ⟨nk_is ok this.1 rfl, this.2⟩
        · exact ih (fun x hx => hk x (List.mem_cons_of_mem _ hx)) y' hy
    exact all r hk y hy
theorem dn_typeIs {s : Shared} (ok : HOk P w H s.heap) (e : DnAt P w H d kvs) : s.TypeIs (.ref d) "dict" := by
  obtain ⟨_, _, _, _, _, _, _, _, dd⟩ := dn_rd ok e
  exact dd.typeIs
theorem dn_new {H' : Hp} {h' : Heap} {xs : List NE} {ys : List (NestedKey × Addr × Value)} (z : xs.length ≤ sizeLine) (hd : (d == sysModules) = false) (r : NRel xs ys) (dd : h'.DictOfH (nestedKind P w) d ys) : ObjOk P w H' h' d (DnO P w d xs) := by
  obtain ⟨o, es, ep, h1, h2, h3, h4, _, h5⟩ := dd
  refine ⟨⟨z, hd, o, es, ep, ys, r, h1, h2, h3, h4, h5⟩, ⟨o, h1⟩, fun a b q k => ?_⟩
  obtain ⟨z, hd, o, es, ep, ys, r, h1, h2, h3, h4, h5⟩ := q
  exact ⟨z, hd, o, es, ep, ys, r, k o h1, h2, h3, h4, h5⟩
end
section
variable {X : Cx} {pins : List (Addr × Obj)} {σ : L2.St} {H : Hp} {s : Shared} {d a : Addr} {kvs : List (NestedKey × V)} {k : NestedKey} {v : V} {r : Value} {A : Around} {E : Value → Shared → Prop}
theorem n_key (I : Inv X pins σ H s) (hk : NkAt H (.ref a) k) (h8 : k.depth ≤ 8) : (nestedKind X.prog X.w).is s.heap k a := ⟨nk_is I.hok hk rfl, h8⟩
/-- k in d -/
theorem n_in {Q : Value → Shared → Prop} (hu : (nestedKind X.prog X.w).room A.in1) (I : Inv X pins σ H s) (e : DnAt X.prog X.w H d kvs) (hk : NkAt H (.ref a) k) (h8 : k.depth ≤ 8) (h : ∀ s', Inv X pins σ H s' → Q (.bool (valN kvs k).isSome) s') :
    wpAny (model X.prog X.w) A (compareOp .In (.ref a) (.ref d)) Q E s := by
  obtain ⟨z, hd, _, xs, ys, rfl, nk, rel, dd⟩ := dn_rd I.hok e
  refine wpAny_in_heap hu (n_key I hk h8) hd dd ?_
  have q := (rel.val k).isSome_eq
  rw [Option.isSome_map] at q
  rw [← q]
  exact h _ (I.tok _)
theorem n_notIn {Q : Value → Shared → Prop} (hu : (nestedKind X.prog X.w).room A.in1) (I : Inv X pins σ H s) (e : DnAt X.prog X.w H d kvs) (hk : NkAt H (.ref a) k) (h8 : k.depth ≤ 8) (h : ∀ s', Inv X pins σ H s' → Q (.bool (!(valN kvs k).isSome)) s') :
    wpAny (model X.prog X.w) A (compareOp .NotIn (.ref a) (.ref d)) Q E s := by
  obtain ⟨z, hd, _, xs, ys, rfl, nk, rel, dd⟩ := dn_rd I.hok e
  show wpAny _ _ (do return .bool (!(← contains (.ref d) (.ref a)))) Q E s
  refine wpAny_bind (wpAny_contains_heap hu (n_key I hk h8) hd dd (wpAny_pure ?_))
  have q := (rel.val k).isSome_eq
  rw [Option.isSome_map] at q
  rw [← q]
  exact h _ (I.tok _)
/-- d[k], there -/
theorem n_getItem {Q : Value → Shared → Prop} (hu : (nestedKind X.prog X.w).room A.in1) (I : Inv X pins σ H s) (e : DnAt X.prog X.w H d kvs) (hk : NkAt H (.ref a) k) (h8 : k.depth ≤ 8) (l : valN kvs k = some v) (h : ∀ w' s', Inv X pins σ H s' → RelV v w' → Q w' s') :
    wpAny (model X.prog X.w) A (getItem (.ref d) (.ref a)) Q E s := by
  obtain ⟨z, hd, _, xs, ys, rfl, nk, rel, dd⟩ := dn_rd I.hok e
  obtain ⟨w', hw, rw'⟩ := RelO.some_of (v := v) (o := (atKey ys k).map (·.2)) (by rw [← l]; exact rel.val k)
  obtain ⟨p, hp, hp2⟩ := Option.map_eq_some_iff.mp hw
  refine wpAny_getItem_heap hu (n_key I hk h8) dd hp ?_
  rw [hp2]
  exact h w' _ (I.tok _) rw'
theorem n_stored {h' : Heap} {t' : Nat} {xs : List NE} {ys : List (NestedKey × Addr × Value)} (I : Inv X pins σ H s) (mu : Mut (H d)) (hd : (d == sysModules) = false) (z : xs.length < sizeLine) (nk : NKeys H xs) (rel : NRel xs ys) (hk : NkAt H (.ref a) k) (h8 : k.depth ≤ 8) (rv : RelV v r)
    (dd : h'.DictOfH (nestedKind X.prog X.w) d (storedH ys k a r)) (hs : Heap.SameBut d s.heap h') : Inv X pins σ (upd H d (DnO X.prog X.w d (putX xs k a v))) { s with heap := h', toks := t' } ∧ DnAt X.prog X.w (upd H d (DnO X.prog X.w d (putX xs k a v))) d (putN (xs.map fun x => (x.1, x.2.2)) k v) := by
  have hl : (putX xs k a v).length ≤ sizeLine := by have := putX_len xs k a v; omega
  refine ⟨d_write I mu hs ?_ (dn_new hl hd (rel.put k a rv) dd), .inr ⟨_, upd_same, putX_kvs, fun x hx => ?_⟩⟩
  · obtain ⟨q, _, _, hq, _⟩ := dd
    exact ⟨q, hq⟩
  · obtain ⟨a1, a2⟩ := nk.put hk h8 (v := v) x hx
    refine ⟨a1.tp fun b ys e => ?_, a2⟩
    rw [upd_ne]
    · exact e
    · intro z
      subst z
      rw [e] at mu
      exact mu
/-- d[k] = v -/
theorem n_setItem {Q : Unit → Shared → Prop} (hu : (nestedKind X.prog X.w).room A.in1) (I : Inv X pins σ H s) (e : DnAt X.prog X.w H d kvs) (hk : NkAt H (.ref a) k) (h8 : k.depth ≤ 8) (hz : kvs.length < sizeLine) (rv : RelV v r)
    (h : ∀ ob s', DnAt X.prog X.w (upd H d ob) d (putN kvs k v) → Inv X pins σ (upd H d ob) s' → Q () s') : wpAny (model X.prog X.w) A (setItem (.ref d) (.ref a) r) Q E s := by
  obtain ⟨z, hd, mu, xs, ys, rfl, nk, rel, dd⟩ := dn_rd I.hok e
  rw [List.length_map] at hz
  have hl : ys.length ≤ sizeLine := by rw [← Paired.length rel]; omega
  refine wpAny_setItem_heap (hsz := hl) hu (n_key I hk h8) dd fun h' dd' hs => ?_
  obtain ⟨I', e'⟩ := n_stored I mu hd hz nk rel hk h8 rv dd' hs
  exact h _ _ e' I'
/-- d.setdefault(k, v) -/
theorem n_setdefault {Q : Value → Shared → Prop} (hu : (nestedKind X.prog X.w).room A.in1) (I : Inv X pins σ H s) (e : DnAt X.prog X.w H d kvs) (hk : NkAt H (.ref a) k) (h8 : k.depth ≤ 8) (hz : kvs.length < sizeLine) (rv : RelV v r)
    (h1 : ∀ v' w' s', valN kvs k = some v' → Inv X pins σ H s' → RelV v' w' → Q w' s')
    (h2 : valN kvs k = none → ∀ ob s', DnAt X.prog X.w (upd H d ob) d (putN kvs k v) → Inv X pins σ (upd H d ob) s' → Q r s') : wpAny (model X.prog X.w) A (call (.builtin "dict.setdefault") [.ref d, .ref a, r]) Q E s := by
  obtain ⟨z, hd, mu, xs, ys, rfl, nk, rel, dd⟩ := dn_rd I.hok e
  rw [List.length_map] at hz
  have hl : ys.length ≤ sizeLine := by rw [← Paired.length rel]; omega
  have rk := rel.val k
  refine call_setdefault_heap (hsz := hl) hu (n_key I hk h8) hd dd (fun p hp => ?_) fun hn h' dd' hs => ?_
  · rw [hp] at rk
    cases hv : valN (xs.map fun x => (x.1, x.2.2)) k with
    | none => rw [hv] at rk; exact False.elim rk
    | some v' =>
      rw [hv] at rk
      exact h1 v' p.2 _ hv (I.tok _) rk
  · rw [hn] at rk
    obtain ⟨I', e'⟩ := n_stored I mu hd hz nk rel hk h8 rv dd' hs
    refine h2 ?_ _ _ e' I'
    cases hv : valN (xs.map fun x => (x.1, x.2.2)) k with
    | none => rfl
    | some v' => rw [hv] at rk; exact False.elim rk
end
/-! ### readings and rules -/
/-- y is a nested key in H -/
def NKey (H : Hp) (y : V) (k : NestedKey) : Prop := ∃ a, y = .ref a ∧ NkAt H y k ∧ k.depth ≤ 8
/-- d[y] -/
def tNGet (P : Program) (w : World) (td ty : TE) : TE := fun σ H Q => td σ H fun x H1 => ty σ H1 fun y H2 => ∃ d kvs k v, x = .ref d ∧ DnAt P w H2 d kvs ∧ NKey H2 y k ∧ valN kvs k = some v ∧ Q v H2
/-- y in d, y not in d -/
def tNIn (P : Program) (w : World) (ty td : TE) : TE := fun σ H Q => ty σ H fun y H1 => td σ H1 fun x H2 => ∃ d kvs k, x = .ref d ∧ DnAt P w H2 d kvs ∧ NKey H2 y k ∧ Q (.bl (valN kvs k).isSome) H2
def tNNotIn (P : Program) (w : World) (ty td : TE) : TE := fun σ H Q => ty σ H fun y H1 => td σ H1 fun x H2 => ∃ d kvs k, x = .ref d ∧ DnAt P w H2 d kvs ∧ NKey H2 y k ∧ Q (.bl (!(valN kvs k).isSome)) H2
/-- d[y] = v -/
def sNPut (P : Program) (w : World) (td ty tv : TE) : TS := fun D σ H => tv σ H fun v H1 => td σ H1 fun x H2 => ty σ H2 fun y H3 => ∃ d kvs k, x = .ref d ∧ DnAt P w H3 d kvs ∧ NKey H3 y k ∧ kvs.length < sizeLine ∧ ∀ ob, DnAt P w (upd H3 d ob) d (putN kvs k v) → D.nx σ (upd H3 d ob)
/-- d.setdefault(y, v) -/
def tNDef (P : Program) (w : World) (td : TE) (ta : TA) : TE := fun σ H Q => td σ H fun x H1 => (∃ d kvs0, x = .ref d ∧ DnAt P w H1 d kvs0) ∧ ta σ H1 fun xs H2 => ∃ d kvs k y v, x = .ref d ∧ xs = [y, v] ∧ DnAt P w H2 d kvs ∧ NKey H2 y k ∧ kvs.length < sizeLine ∧
  (∀ v', valN kvs k = some v' → Q v' H2) ∧ (valN kvs k = none → ∀ ob, DnAt P w (upd H2 d ob) d (putN kvs k v) → Q v (upd H2 d ob))
theorem n_room {A : Around} (hu : A.units + 64 < cLine) {P : Program} {w : World} : (nestedKind P w).room A.in1 := by
  show A.units + 1 + 8 < cLine
  omega
section
variable {X : Cx} {o i e value : Expr} {pos pos' tpos : Pos} {td ty tv : TE}
theorem pe_nget (hu : X.A.units + 64 < cLine) (ho : PE X o td) (hi : PE X i ty) (hs : NoSl i) : PE X (.Subscript o i pos) (tNGet X.prog X.w td ty) := by
  refine ⟨fun pins s σ H Q I h => ?_⟩
  refine subD_of PySem.F.slot_dict_getitem.lookup hs (thn (ho.run pins s σ H _ I h) fun u s1 ⟨x, H1, I1, rx, q1⟩ => thn (hi.run pins s1 σ H1 _ I1 q1) fun iv s2 ⟨y, H2, I2, ry, d, kvs, k, v, ex, g, ⟨a, ey, hk, h8⟩, l, q2⟩ => ?_)
  subst ex ey
  obtain rfl : u = Value.ref d := rx
  obtain rfl : iv = Value.ref a := ry
  exact ⟨dn_typeIs I2.hok g, n_getItem (n_room hu) I2 g hk h8 l fun w' s3 I3 rw' => ⟨v, H2, I3, rw', q2⟩⟩
theorem pc_nin (hu : X.A.units + 64 < cLine) (hi : PE X i ty) (ho : PE X o td) : PC X .In i o (tNIn X.prog X.w ty td) := by
  refine ⟨fun pins s σ H Q I h => ?_⟩
  refine thn (hi.run pins s σ H _ I h) fun iv s1 ⟨y, H1, I1, ry, q1⟩ => thn (ho.run pins s1 σ H1 _ I1 q1) fun u s2 ⟨x, H2, I2, rx, d, kvs, k, ex, g, ⟨a, ey, hk, h8⟩, q2⟩ => ?_
  subst ex ey
  obtain rfl : u = Value.ref d := rx
  obtain rfl : iv = Value.ref a := ry
  exact n_in (n_room hu) I2 g hk h8 fun s3 I3 => ⟨.bl (valN kvs k).isSome, H2, I3, rfl, q2⟩
theorem pc_nnotin (hu : X.A.units + 64 < cLine) (hi : PE X i ty) (ho : PE X o td) : PC X .NotIn i o (tNNotIn X.prog X.w ty td) := by
  refine ⟨fun pins s σ H Q I h => ?_⟩
  refine thn (hi.run pins s σ H _ I h) fun iv s1 ⟨y, H1, I1, ry, q1⟩ => thn (ho.run pins s1 σ H1 _ I1 q1) fun u s2 ⟨x, H2, I2, rx, d, kvs, k, ex, g, ⟨a, ey, hk, h8⟩, q2⟩ => ?_
  subst ex ey
  obtain rfl : u = Value.ref d := rx
  obtain rfl : iv = Value.ref a := ry
  exact n_notIn (n_room hu) I2 g hk h8 fun s3 I3 => ⟨.bl (!(valN kvs k).isSome), H2, I3, rfl, q2⟩
theorem ps_nput (hu : X.A.units + 64 < cLine) (ho : PE X o td) (hi : PE X i ty) (hv : PE X value tv) (hs : swapsWith value (some (.Subscript o i pos')) pos.line X.env = pure false) :
    PS X (.Assign [.Subscript o i pos'] value pos) (sNPut X.prog X.w td ty tv) := by
  refine ⟨fun pins s σ H D I h => ?_⟩
  refine wpAny_Assign_Subscript (thn (hv.run pins s σ H _ I h) fun r s1 ⟨v, H1, I1, rv, q1⟩ => thn (ho.run pins s1 σ H1 _ I1 q1) fun u s2 ⟨x, H2, I2, rx, q2⟩ => thn (hi.run pins s2 σ H2 _ I2 q2) fun iv s3 ⟨y, H3, I3, ry, d, kvs, k, ex, g, ⟨a, ey, hk, h8⟩, hz, q3⟩ => ?_) hs
  subst ex ey
  obtain rfl : u = Value.ref d := rx
  obtain rfl : iv = Value.ref a := ry
  exact n_setItem (n_room hu) I3 g hk h8 hz rv fun ob s4 e4 I4 => ⟨σ, upd H3 d ob, I4, q3 ob e4⟩
theorem pe_ndef {es : List Expr} {t : TA} {apos cpos : Pos} (hu : X.A.units + 64 < cLine) (ho : PE X o td) (ha : PA X (e :: es) t)
    (hbase : attributeBase o "setdefault" X.env (eval o X.env) = eval o X.env := by rfl)
    (hfew : ((backTo cpos (starEach (e :: es) X.env)).all (fun x => !x.1) && (backToKw cpos (keywordEach [] X.env)).all (fun x => x.1.isSome)
      && decide ((e :: es).length + ([] : List Keyword).length + (if ([] : List Keyword).isEmpty then 0 else 1) < 30)) = true := by rfl)
    (hline : (apos.endLine == cpos.line) = true := by rfl) (hs : starEach (e :: es) X.env = (false, eval e X.env) :: starEach es X.env := by rfl) (hplain : (backTo cpos (starEach es X.env)).any (·.1) = false := by rfl) :
    PE X (.Call (.Attribute o "setdefault" apos) (e :: es) [] cpos) (tNDef X.prog X.w td t) := by
  refine ⟨fun pins s σ H Q I h => ?_⟩
  refine wpAny_Call_method_late hbase hfew hline rfl (thn (ho.run pins s σ H _ I h) fun v s1 ⟨x, H1, I1, r1, ⟨d, kvs0, ex, g0⟩, q1⟩ => ?_)
  subst ex
  obtain rfl : v = Value.ref d := r1
  have ty := dn_typeIs I1.hok g0
  have nd : ∀ b, Value.ref d = .ref b → ∃ ob, s1.heap.get? b = some ob ∧ ob.dict = none := fun b q => by
    cases q
    obtain ⟨_, _, _, _, _, _, _, _, ob, _, _, h1, h2, _⟩ := dn_rd I1.hok g0
    exact ⟨ob, h1, h2.2.1⟩
  refine ⟨"dict", "dict.setdefault", PySem.F.plainAttrs_dict, PySem.F.slot_dict_setdefault, PySem.F.type_dict_setdefault, ty, nd, ?_⟩
  have hA := ha.run cpos pins s1 σ H1 _ I1 q1
  rw [hs] at hA ⊢
  refine Calls.callWith_builtin (by show (false || (backTo cpos (starEach es X.env)).any (·.1)) = false; rw [hplain] <;> rfl) (Calls.evalArgs_plain ?_)
  refine thn hA fun us s2 ⟨vs, H2, I2, r2, d', kvs, k, y, v, ex, exs, g, ⟨a, ey, hk, h8⟩, hz, q2, q3⟩ => ?_
  cases ex
  subst exs ey
  obtain ⟨u1, u2, rfl, ra, rv⟩ := vals2 r2
  obtain rfl : u1 = Value.ref a := ra
  exact n_setdefault (n_room hu) I2 g hk h8 hz rv (fun v' w' s' hv I' r' => ⟨v', H2, I', r', q2 v' hv⟩) fun hn ob s' e' I' => ⟨v, _, I', rv, q3 hn ob e'⟩
/-- len(d) -/
def rLenN (P : Program) (w : World) : List V → Hp → VK → Prop := fun xs H Q => ∃ d kvs, xs = [.ref d] ∧ DnAt P w H d kvs ∧ Q (.int (kvs.length : Nat)) H
theorem call_lenN : CallR X (.builtin "len") (rLenN X.prog X.w) := by
  intro pins s σ H xs us Q I r h
  obtain ⟨d, kvs, rfl, g, q⟩ := h
  obtain ⟨u, rfl, ru⟩ := vals1 r
  obtain rfl : u = Value.ref d := ru
  obtain ⟨z, hd, _, es, ys, hk, _, rel, dd⟩ := dn_rd I.hok g
  have hl : (pairsH ys).length = kvs.length := by rw [pairsH_length, ← Paired.length rel, ← hk, List.length_map]
  have hm : s.heap.DictKeyed (nestedKind X.prog X.w) d (pairsH ys) := ⟨ys, dd, rfl⟩
  refine PyProof.Rows.call_len_slot (n := (pairsH ys).length) hm.typeIs PySem.F.slot_dict_len (fun Q' hq => len_keyed hd hm hq) (by omega) (by rw [hl]; rw [sizeLine_eq] at z; omega) ?_
  rw [hl]
  exact ⟨.int (kvs.length : Nat), H, I.tok _, ⟨_, rfl⟩, q⟩
end
end My

set_option Elab.async false
set_option linter.all false
set_option maxRecDepth 100000
set_option maxHeartbeats 4000000
/-! ### {k: v}, one pair, its key a tuple (of tuples) -/
namespace My
open PySem L2
/-- the new dict stands empty while the pair is made -/
def tDispN (P : Program) (w : World) (tk tv : TE) : TE := fun σ H Q => ∀ p, H p = none → tk σ (upd H p (.dK [])) fun x H1 => tv σ H1 fun y H2 => H2 p = some (.dK []) ∧ ∃ k, NKey H2 x k ∧ ∀ ob, DnAt P w (upd H2 p ob) p [(k, y)] → Q (.ref p) (upd H2 p ob)
theorem pe_dispN {X : Cx} {k v : Expr} {pos : Pos} {tk tv : TE} (hu : X.A.units + 64 < cLine) (hk : PE X k tk) (hv : PE X v tv) : PE X (.Dict [some k] [v] pos) (tDispN X.prog X.w tk tv) := by
  refine ⟨fun pins s σ H Q I q => ?_⟩
  have hn := I.hok.fresh (Nat.le_refl s.heap.objs.size)
  have I1 := I.laid (a := s.heap.objs.size) (o := .dK []) (h' := s.heap.push { cls := .type "dict", data := .dict #[] }) (t' := s.toks) (fun _ _ q => Heap.get?_push_of_some _ q) (Nat.le_refl _) (dk_empty s.heap I.big)
  have pp : PPs X pos [some k] [v] [(tk, tv)] := pps_cons hk hv pps_nil
  have len : (pairTrees [some k] [v] X.env pos).length = 1 := pairTrees_length [some k] [v] X.env pos rfl rfl
  rw [arm_eval_Dict, zip_pairTrees [some k] [v] X.env pos rfl rfl, dictDisplay_pairs _ (fun he => by rw [he] at len; cases len) (by omega)]
  refine wpAny_bind (wpAny_standAt (wpAny_bind (wpAny_subDictH (knd := nestedKind X.prog X.w) (by show X.A.units + 8 < cLine; omega) (by omega) (thn (pp.run pins _ σ _ (fun ps H3 => match ps with
    | [(kx, vx)] => H3 s.heap.objs.size = some (.dK []) ∧ ∃ k, NKey H3 kx k ∧ ∀ ob, DnAt X.prog X.w (upd H3 s.heap.objs.size ob) s.heap.objs.size [(k, vx)] → Q (.ref s.heap.objs.size) (upd H3 s.heap.objs.size ob)
    | _ => False) I1 (q _ hn)) fun ws s2 hq => ?_))))
  obtain ⟨ps, H3, I5, rel, qq⟩ := hq
  match ps, rel, qq with
  | [], _, qq => exact qq.elim
  | _ :: _ :: _, _, qq => exact qq.elim
  | [(kx, vx)], rel, qq =>
    obtain ⟨e2, key, ⟨a, rfl, hk, h8⟩, qf⟩ := qq
    cases rel with
    | @cons p q' ps qs hpq t =>
      cases t
      obtain ⟨u1, u2⟩ := q'
      obtain ⟨r1, r2⟩ := hpq
      obtain rfl : u1 = Value.ref a := r1
      obtain ⟨z, hd, mu, xs, ys, exs, nk, rel, dd⟩ := dn_rd (d := s.heap.objs.size) (kvs := []) I5.hok (.inl ⟨e2, rfl⟩)
      have exs : xs = [] := List.map_eq_nil_iff.mp exs
      subst exs
      cases rel
      refine ⟨[(key, a, u2)], ⟨rfl, rfl, n_key I5 hk h8, True.intro⟩, dd, fun h' tk dd' hs => ?_⟩
      obtain ⟨I', e'⟩ := n_stored (xs := []) (t' := tk) I5 mu hd (by rw [sizeLine_eq]; decide) nk .nil hk h8 r2 dd' hs
      exact wpAny_pure ⟨.ref s.heap.objs.size, _, I', rfl, qf _ e'⟩
end My

set_option Elab.async false
set_option linter.all false
set_option maxRecDepth 100000
set_option maxHeartbeats 4000000
/-! ### dicts keyed by tuples stand while other things change -/
namespace My
open PySem L2
theorem dn_kp {P : Program} {w : World} {H H' : Hp} {d : Addr} {kvs : List (NestedKey × V)} (h : DnAt P w H d kvs) (k : Kp [] H H') : DnAt P w H' d kvs := by
  rcases h with ⟨a, b⟩ | ⟨xs, a, b, c⟩
  · exact .inl ⟨k _ _ not0 a, b⟩
  · exact .inr ⟨xs, k _ _ not0 a, b, fun x hx => ⟨(c x hx).1.tp fun b ys e => k _ _ not0 e, (c x hx).2⟩⟩
theorem dn_wr {P : Program} {w : World} {H : Hp} {d l : Addr} {us ws : List V} {kvs : List (NestedKey × V)} (h : DnAt P w H d kvs) (hl : H l = some (.lst us)) (ne : d ≠ l) : DnAt P w (upd H l (.lst ws)) d kvs := by
  rcases h with ⟨a, b⟩ | ⟨xs, a, b, c⟩
  · exact .inl ⟨by rw [upd_ne ne]; exact a, b⟩
  · refine .inr ⟨xs, by rw [upd_ne ne]; exact a, b, fun x hx => ⟨(c x hx).1.tp fun b ys e => ?_, (c x hx).2⟩⟩
    rw [upd_ne (fun z => by rw [z, hl] at e; cases e)]
    exact e
theorem nodup_lenP {α : Type} [DecidableEq α] : ∀ {l m : List α}, l.Nodup → (∀ x ∈ l, x ∈ m) → l.length ≤ m.length
  | [], _, _, _ => Nat.zero_le _
  | x :: l, m, h, s => by
    rw [List.nodup_cons] at h
    have hx := s x (by simp)
    have ih := nodup_lenP (l := l) (m := m.erase x) h.2 fun y hy => (List.mem_erase_of_ne (fun e => h.1 (by rw [← e]; exact hy))).mpr (s y (by simp [hy]))
    rw [List.length_erase_of_mem hx] at ih
    have : 0 < m.length := List.length_pos_of_mem hx
    rw [List.length_cons]; omega
section
variable {P : Program} {w : World} {H : Hp} {bd : Addr}
theorem dn_nl {kvs : List (NestedKey × V)} (h : DnAt P w H bd kvs) {b : Addr} {us : List V} (e : H b = some (.lst us)) : b ≠ bd := fun z => by
  subst z
  rcases h with ⟨a, _⟩ | ⟨_, a, _⟩ <;> (rw [e] at a; cases a)
theorem dn_nt {kvs : List (NestedKey × V)} (h : DnAt P w H bd kvs) {b : Addr} {us : List V} (e : H b = some (.tup us)) : b ≠ bd := fun z => by
  subst z
  rcases h with ⟨a, _⟩ | ⟨_, a, _⟩ <;> (rw [e] at a; cases a)
theorem dn_wd {d s : Addr} {kvs ks : List (NestedKey × V)} {ob : HO} (h : DnAt P w H d kvs) (hs : DnAt P w H s ks) (ne : d ≠ s) : DnAt P w (upd H s ob) d kvs := by
  rcases h with ⟨a, b⟩ | ⟨xs, a, b, nk⟩
  · exact .inl ⟨by rw [upd_ne ne]; exact a, b⟩
  · refine .inr ⟨xs, by rw [upd_ne ne]; exact a, b, fun x hx => ?_⟩
    obtain ⟨a1, a2⟩ := nk x hx
    exact ⟨a1.tp fun b ys e => by rw [upd_ne (dn_nt hs e)]; exact e, a2⟩
theorem valN_notK {kvs : List (NestedKey × V)} {k : NestedKey} (h : k ∉ kvs.map (·.1)) : valN kvs k = none := by
  unfold valN
  rw [Option.map_eq_none_iff, List.find?_eq_none]
  intro p hp
  simp
  intro z
  exact h (by rw [← z]; exact List.mem_map_of_mem hp)
theorem valN_inK {kvs : List (NestedKey × V)} {k : NestedKey} (h : k ∈ kvs.map (·.1)) : (valN kvs k).isSome = true := by
  unfold valN
  obtain ⟨p, hp, e⟩ := List.mem_map.mp h
  rw [Option.isSome_map, List.find?_isSome]
  exact ⟨p, hp, by simpa using e⟩
theorem valN_isK {kvs : List (NestedKey × V)} {k : NestedKey} : (valN kvs k).isSome = decide (k ∈ kvs.map (·.1)) := by
  by_cases h : k ∈ kvs.map (·.1)
  · rw [valN_inK h, decide_eq_true h]
  · rw [valN_notK h, decide_eq_false h]; rfl
theorem putN_keys {kvs : List (NestedKey × V)} {k : NestedKey} {v : V} : (putN kvs k v).map (·.1) = if k ∈ kvs.map (·.1) then kvs.map (·.1) else kvs.map (·.1) ++ [k] := by
  unfold putN
  rw [valN_isK]
  by_cases h : k ∈ kvs.map (·.1)
  · rw [decide_eq_true h, if_pos rfl, if_pos h, List.map_map]
    refine List.map_congr_left fun p _ => ?_
    show (if p.1 = k then (p.1, v) else p).1 = p.1
    split <;> rfl
  · rw [decide_eq_false h, if_neg (by decide), if_neg h, List.map_append]
    rfl
end
end My

set_option Elab.async false
set_option linter.all false
set_option maxRecDepth 100000
set_option maxHeartbeats 4000000
/-! ### d.get(k, x), d a dict keyed by tuples -/
namespace My
open PySem PySem.Spec PyProof PyProof.Rows L2
section
variable {X : Cx} {pins : List (Addr × Obj)} {σ : L2.St} {H : Hp} {s : Shared} {d a : Addr} {kvs : List (NestedKey × V)} {k : NestedKey} {v : V} {r : Value} {A : Around} {E : Value → Shared → Prop}
theorem n_getOr {Q : Value → Shared → Prop} (hu : (nestedKind X.prog X.w).room A.in1) (I : Inv X pins σ H s) (e : DnAt X.prog X.w H d kvs) (hk : NkAt H (.ref a) k) (h8 : k.depth ≤ 8) (rv : RelV v r)
    (h1 : ∀ v' w' s', valN kvs k = some v' → Inv X pins σ H s' → RelV v' w' → Q w' s')
    (h2 : valN kvs k = none → ∀ s', Inv X pins σ H s' → Q r s') : wpAny (model X.prog X.w) A (call (.builtin "dict.get") [.ref d, .ref a, r]) Q E s := by
  obtain ⟨z, hd, mu, xs, ys, rfl, nk, rel, dd⟩ := dn_rd I.hok e
  have rk := rel.val k
  refine call_meetsIn F.slot_dict_get dd.typeIs F.entry_dict_get (F.args_dict_get_3 _ _ _) (meetsH_dict_get_default (nestedKind X.prog X.w) d a hd r) ⟨hu, k, ys, n_key I hk h8, dd, ?_⟩
  cases hv : valN (xs.map fun x => (x.1, x.2.2)) k with
  | none =>
    rw [hv] at rk
    cases hw : (atKey ys k).map (·.2) with
    | none => exact h2 hv _ (I.tok _)
    | some u => rw [hw] at rk; exact False.elim rk
  | some v' =>
    rw [hv] at rk
    cases hw : (atKey ys k).map (·.2) with
    | none => rw [hw] at rk; exact False.elim rk
    | some u => rw [hw] at rk; exact h1 v' u _ hv (I.tok _) rk
end
/-- d.get(y, v) -/
def tNGor (P : Program) (w : World) (td : TE) (ta : TA) : TE := fun σ H Q => td σ H fun x H1 => (∃ d kvs0, x = .ref d ∧ DnAt P w H1 d kvs0) ∧ ta σ H1 fun xs H2 => ∃ d kvs k y v, x = .ref d ∧ xs = [y, v] ∧ DnAt P w H2 d kvs ∧ NKey H2 y k ∧
  (∀ v', valN kvs k = some v' → Q v' H2) ∧ (valN kvs k = none → Q v H2)
section
variable {X : Cx} {o i e value : Expr} {pos pos' tpos : Pos} {td ty tv : TE}
theorem pe_ngor {es : List Expr} {t : TA} {apos cpos : Pos} (hu : X.A.units + 64 < cLine) (ho : PE X o td) (ha : PA X (e :: es) t)
    (hbase : attributeBase o "get" X.env (eval o X.env) = eval o X.env := by rfl)
    (hfew : ((backTo cpos (starEach (e :: es) X.env)).all (fun x => !x.1) && (backToKw cpos (keywordEach [] X.env)).all (fun x => x.1.isSome)
      && decide ((e :: es).length + ([] : List Keyword).length + (if ([] : List Keyword).isEmpty then 0 else 1) < 30)) = true := by rfl)
    (hline : (apos.endLine == cpos.line) = true := by rfl) (hs : starEach (e :: es) X.env = (false, eval e X.env) :: starEach es X.env := by rfl) (hplain : (backTo cpos (starEach es X.env)).any (·.1) = false := by rfl) :
    PE X (.Call (.Attribute o "get" apos) (e :: es) [] cpos) (tNGor X.prog X.w td t) := by
  refine ⟨fun pins s σ H Q I h => ?_⟩
  refine wpAny_Call_method_late hbase hfew hline rfl (thn (ho.run pins s σ H _ I h) fun v s1 ⟨x, H1, I1, r1, ⟨d, kvs0, ex, g0⟩, q1⟩ => ?_)
  subst ex
  obtain rfl : v = Value.ref d := r1
  have ty := dn_typeIs I1.hok g0
  have nd : ∀ b, Value.ref d = .ref b → ∃ ob, s1.heap.get? b = some ob ∧ ob.dict = none := fun b q => by
    cases q
    obtain ⟨_, _, _, _, _, _, _, _, ob, _, _, h1, h2, _⟩ := dn_rd I1.hok g0
    exact ⟨ob, h1, h2.2.1⟩
  refine ⟨"dict", "dict.get", PySem.F.plainAttrs_dict, PySem.F.slot_dict_get, PySem.F.type_dict_get, ty, nd, ?_⟩
  have hA := ha.run cpos pins s1 σ H1 _ I1 q1
  rw [hs] at hA ⊢
  refine Calls.callWith_builtin (by show (false || (backTo cpos (starEach es X.env)).any (·.1)) = false; rw [hplain] <;> rfl) (Calls.evalArgs_plain ?_)
  refine thn hA fun us s2 ⟨vs, H2, I2, r2, d', kvs, k, y, v, ex, exs, g, ⟨a, ey, hk, h8⟩, q2, q3⟩ => ?_
  cases ex
  subst exs ey
  obtain ⟨u1, u2, rfl, ra, rv⟩ := vals2 r2
  obtain rfl : u1 = Value.ref a := ra
  exact n_getOr (n_room hu) I2 g hk h8 rv (fun v' w' s' hv I' r' => ⟨v', H2, I', r', q2 v' hv⟩) fun hn s' I' => ⟨v, H2, I', rv, q3 hn⟩
end
end My

set_option Elab.async false
set_option linter.all false
set_option maxRecDepth 100000
set_option maxHeartbeats 4000000
/-! ### a loop over the keys of a dict keyed by tuples; reads of it while it goes on -/
namespace My
open PySem PySem.Spec PySem.W PyProof.Rows L2
/-- the locked dict -/
def DnFz (P : Program) (w : World) (H : Hp) (d : Addr) (od : Obj) (xs : List NE) : Prop := H d = some (.frz od (DnO P w d xs)) ∧ NKeys H xs
def Itn (P : Program) (w : World) (d : Addr) (o : Obj) (xs : List NE) : It :=
  ⟨fun i H => H d = some (.frz o (DnO P w d xs)) ∧ i < xs.length, fun i H x H' => H' = H ∧ ∃ e : NE, xs[i]? = some e ∧ x = .ref e.2.1, fun i H => H d = some (.frz o (DnO P w d xs)) ∧ xs.length ≤ i⟩
theorem walk_keysN {P : Program} {w : World} {d : Addr} {o : Obj} {xs : List NE} : Walk (Itn P w d o xs) xs.length (fun H => H d = some (.frz o (DnO P w d xs))) (fun i H x H' => H' = H ∧ ∃ e : NE, xs[i]? = some e ∧ x = .ref e.2.1) :=
  ⟨fun _ _ hi q => ⟨q, hi⟩, fun _ q => ⟨q, Nat.le_refl _⟩, fun _ _ _ _ _ _ y => y⟩
section
variable {X : Cx} {pins : List (Addr × Obj)} {σ : L2.St} {H : Hp} {s : Shared} {d : Addr} {o : Obj} {xs : List NE}
theorem frzN (I : Inv X pins σ H s) (h : H d = some (.frz o (DnO X.prog X.w d xs))) : (d == sysModules) = false ∧ s.heap.get? d = some o ∧ o.ExactDict ∧ ∃ (es : Array DictEntry) (ep : Nat) (ys : List (NestedKey × Addr × Value)), o.data = .dict es ep ∧ NRel xs ys ∧ es.toList = ys.map (entryOfKey (nestedKind X.prog X.w)) ∧ (ys.map (·.1)).Nodup := by
  obtain ⟨hd, ⟨z, hs, o', es, ep, ys, r, h1, h2, h3, h4, h5⟩, _, _⟩ := (show ObjOk X.prog X.w H s.heap d (.frz o (DnO X.prog X.w d xs)) from I.hok d _ h)
  rw [hd] at h1
  cases h1
  exact ⟨hs, hd, h2, es, ep, ys, h3, r, h4, h5⟩
end
section
variable {P : Program} {w : World} {K : PySem.W.Frag} {tg : Expr} {d : Addr} {o : Obj} {es : Array DictEntry} {ep : Nat}
theorem turn_keysN {xs : List NE} (it : Addr) (hod : o.data = .dict es ep) : Turn P w K tg (Itn P w d o xs) [it] it (fun i h => h.IsKeyIter it d i xs.length ep) where
  mem := by simp
  obj := fun i h st b hb => by
    have e : b = it := by simpa using hb
    subst e
    obtain ⟨oi, e, c, dd⟩ := st
    exact ⟨oi, e, fun v z => by rw [dd] at z; cases z⟩
  keep := fun i h h' st k => st.at fun oi e => k it (by simp) oi e
  item := by
    intro X hP hw hK hc i pins s σ H E I hf st hg
    subst hP hw hK
    obtain ⟨hd, hi⟩ := hg
    obtain ⟨f0, f1, f2, f3, f4, f5⟩ := hf it (by simp)
    obtain ⟨hs, hgd, hx, es', ep', ys, hdt, rel, hes, nd⟩ := frzN I hd
    obtain ⟨rfl, rfl⟩ := dict_ep hod hdt
    have hl : xs.length = ys.length := Paired.length rel
    obtain ⟨x, hx2⟩ : ∃ p, xs[i]? = some p := ⟨xs[i], List.getElem?_eq_getElem hi⟩
    obtain ⟨y, hy, r1, r2, r3⟩ := paired_get rel hx2
    have hsz : es'.size = xs.length := by
      have := congrArg List.length hes
      rw [List.length_map] at this
      rw [← Array.length_toList, this, hl]
    have hen : es'[i]? = some (entryOfKey (nestedKind X.prog X.w) y) := by
      rw [← Array.getElem?_toList, hes, List.getElem?_map, hy]
      rfl
    refine next_key_item st hgd hdt hsz hen fun h' st' sb => ?_
    have I1 : Inv X pins σ H { s with heap := h' } := I.turned (t' := s.toks) (fun b ob hb e => (sb.2 b hb).trans e) f0 f1 f3 f4 f5
    obtain ⟨oi, e, c, dd⟩ := id st'
    refine ⟨(entryOfKey (nestedKind X.prog X.w) y).key, rfl, go_of (s := { s with heap := h' }) e c dd (by decide) ⟨.ref x.2.1, H, I1, ?_, ⟨rfl, x, hx2, rfl⟩, st', fun b hb => (hf b hb).1⟩⟩
    rw [← r2]
    rfl
  done := by
    intro X hP hw hK hc i pins s σ H E I hf st hg
    subst hP hw hK
    obtain ⟨hd, hi⟩ := hg
    obtain ⟨f0, f1, f2, f3, f4, f5⟩ := hf it (by simp)
    obtain ⟨hs, hgd, hx, es', ep', ys, hdt, rel, hes, nd⟩ := frzN I hd
    obtain ⟨rfl, rfl⟩ := dict_ep hod hdt
    have hl : xs.length = ys.length := Paired.length rel
    have hsz : es'.size = xs.length := by
      have := congrArg List.length hes
      rw [List.length_map] at this
      rw [← Array.length_toList, this, hl]
    exact next_key_end (I.ok.hd hc) st hgd hdt hsz hi fun h' eb => ⟨rfl, I.turned (t' := s.toks) (fun b ob hb e => eb b ob hb e) f0 f1 f3 f4 f5⟩
  self := fun A i s Q E st h => by
    refine wpAny_pyIter_slot st.typeIs F.slot_dict_keyiterator_iter (wpAny_call_entry F.slot_dict_keyiterator_iter st.typeIs F.entry_dict_keyiterator_iter ?_ (F.args_dict_keyiterator_iter_1 _))
    show wpAny _ _ (ret (.ref it)) _ _ s
    exact wpAny_pure ⟨_, rfl, "dict_keyiterator", _, st.typeIs, F.slot_dict_keyiterator_next.lookup, h⟩
end
/-- the dict is locked (tLock) -/
def iKeysN (P : Program) (w : World) (td : TE) : L2.TI := fun σ H R => td σ H fun x H1 => ∃ d o xs, x = .ref d ∧ H1 d = some (.frz o (DnO P w d xs)) ∧ R (Itn P w d o xs) H1
/-- d[y], the dict locked -/
def tNGetF (P : Program) (w : World) (td ty : TE) : TE := fun σ H Q => td σ H fun x H1 => ty σ H1 fun y H2 => ∃ d o xs k v, x = .ref d ∧ DnFz P w H2 d o xs ∧ NKey H2 y k ∧ valN (xs.map fun x => (x.1, x.2.2)) k = some v ∧ Q v H2
section
variable {X : Cx} {tg e i : Expr} {td ty : TE} {pos : Pos}
theorem pi_keysN (he : PE X e td) : PI X tg e (iKeysN X.prog X.w td) := by
  refine ⟨fun pins s σ H R I h => ?_⟩
  refine thn (he.run pins s σ H _ I h) fun u s1 ⟨x, H1, I1, rx, d, o, xs, ex, hd, q⟩ => ?_
  subst ex
  obtain rfl : u = Value.ref d := rx
  obtain ⟨hs, hgd, hx, es, ep, ys, hdt, rel, hes, nd⟩ := frzN I1 hd
  have hl : xs.length = ys.length := Paired.length rel
  have hsz : es.size = xs.length := by
    have := congrArg List.length hes
    rw [List.length_map] at this
    rw [← Array.length_toList, this, hl]
  refine iter_keys hs hgd hx hdt (pi_one (tk := s1.toks) I1 _ (turn_keysN _ hdt) ⟨_, Heap.get?_push_size _ rfl, rfl, ?_⟩ q)
  rw [hsz] <;> rfl
theorem pe_ngetF (hu : X.A.units + 64 < cLine) (ho : PE X e td) (hi : PE X i ty) (hs : NoSl i) : PE X (.Subscript e i pos) (tNGetF X.prog X.w td ty) := by
  refine ⟨fun pins s σ H Q I h => ?_⟩
  refine subD_of PySem.F.slot_dict_getitem.lookup hs (thn (ho.run pins s σ H _ I h) fun u s1 ⟨x, H1, I1, rx, q1⟩ => thn (hi.run pins s1 σ H1 _ I1 q1) fun iv s2 ⟨y, H2, I2, ry, d, o, xs, k, v, ex, ⟨g, nk⟩, ⟨a, ey, hk, h8⟩, l, q2⟩ => ?_)
  subst ex ey
  obtain rfl : u = Value.ref d := rx
  obtain rfl : iv = Value.ref a := ry
  obtain ⟨hs', hgd, hx, es, ep, ys, hdt, rel, hes, nd⟩ := frzN I2 g
  have all : ∀ {xs : List NE} {ys : List (NestedKey × Addr × Value)}, NRel xs ys → NKeys H2 xs → ∀ y ∈ ys, (nestedKind X.prog X.w).is s2.heap y.1 y.2.1 := by
    intro xs ys q
    induction q with
    | nil => intro _ y hy; exact nomatch hy
    | @cons x y xs ys hq t ih =>
      intro hk y' hy
      rcases List.mem_cons.mp hy with e | hy
      · subst e
        have := hk x List.mem_cons_self
        rw [hq.1, hq.2.1]
        exact ⟨nk_is I2.hok this.1 rfl, this.2⟩
      · exact ih (fun x hx => hk x (List.mem_cons_of_mem _ hx)) y' hy
  have dd : s2.heap.DictOfH (nestedKind X.prog X.w) d ys := ⟨o, es, ep, hgd, hx, hdt, hes, all rel nk, nd⟩
  refine ⟨dd.typeIs, ?_⟩
  obtain ⟨w', hw, rw'⟩ := RelO.some_of (v := v) (o := (atKey ys k).map (·.2)) (by rw [← l]; exact rel.val k)
  obtain ⟨p, hp, hp2⟩ := Option.map_eq_some_iff.mp hw
  refine wpAny_getItem_heap (n_room hu) (n_key I2 hk h8) dd hp ?_
  rw [hp2]
  exact ⟨v, H2, I2.tok _, rw', q2⟩
end
/-- for k in d, d keyed by tuples: what holds at each turn holds of the heap in which d is locked -/
theorem forKeysN {P : Program} {w : World} {g : TG} {tb : TS} {D : Ends} {σ : L2.St} {H : Hp} {d : Addr} {xs : List NE} {i : Nat} (hσ : σ[i]? = some (some (.ref d))) (hd : H d = some (DnO P w d xs)) (Pv : Obj → Nat → L2.St → Hp → Prop)
    (h0 : ∀ od, Pv od 0 σ (upd H d (.frz od (DnO P w d xs)))) (hk : ∀ od j σ H', Pv od j σ H' → H' d = some (.frz od (DnO P w d xs)))
    (hs : ∀ od j (e : NE) σ H', xs[j]? = some e → Pv od j σ H' → g (.ref e.2.1) σ H' fun σ2 H2 => tb ⟨Pv od (j + 1), fun v H' => H' d = some (.frz od (DnO P w d xs)) ∧ D.rt v (upd H' d (DnO P w d xs)), fun σ' H' => H' d = some (.frz od (DnO P w d xs)) ∧ D.nx σ' (upd H' d (DnO P w d xs)), Pv od (j + 1)⟩ σ2 H2)
    (fin : ∀ od σ' H', Pv od xs.length σ' H' → D.nx σ' (upd H' d (DnO P w d xs))) : tLock (tFor (iKeysN P w (tVar i)) g tb) D σ H := by
  refine ⟨d, DnO P w d xs, hd, True.intro, fun od => ?_⟩
  refine ⟨.ref d, hσ, d, od, xs, rfl, upd_same, ?_⟩
  refine for_it (n := xs.length) walk_keysN (Pv od) (h0 od) (fun j σ H _ p => hk od j σ H p) (fun j x σ H1 H' hj p y => ?_) fun σ H p => ⟨hk od _ σ H p, fin od σ H p⟩
  obtain ⟨rfl, e, e1, rfl⟩ := y
  exact hs od j e σ _ e1 p
end My

set_option Elab.async false
set_option linter.all false
set_option maxRecDepth 100000
set_option maxHeartbeats 4000000
/-! ### a loop over a dict's keys -/
namespace My
open PySem L2
theorem forKeys {g : TG} {tb : TS} {D : Ends} {σ : L2.St} {H : Hp} {d : Addr} {kvs : List (Key × V)} {i : Nat} (hσ : σ[i]? = some (some (.ref d))) (hd : H d = some (.dK kvs)) (Pv : Obj → Nat → L2.St → Hp → Prop)
    (h0 : ∀ od, Pv od 0 σ (upd H d (.frz od (.dK kvs)))) (hk : ∀ od j σ H', Pv od j σ H' → H' d = some (.frz od (.dK kvs)))
    (hs : ∀ od j k v σ H', kvs[j]? = some (k, v) → Pv od j σ H' → g (kV k) σ H' fun σ2 H2 => tb ⟨Pv od (j + 1), fun v H' => H' d = some (.frz od (.dK kvs)) ∧ D.rt v (upd H' d (.dK kvs)), fun σ' H' => H' d = some (.frz od (.dK kvs)) ∧ D.nx σ' (upd H' d (.dK kvs)), Pv od (j + 1)⟩ σ2 H2)
    (fin : ∀ od σ' H', Pv od kvs.length σ' H' → D.nx σ' (upd H' d (.dK kvs))) : tLock (tFor (iKeys (tVar i)) g tb) D σ H := by
  refine ⟨d, .dK kvs, hd, True.intro, fun od => ?_⟩
  refine ⟨.ref d, hσ, d, od, rfl, .inl ⟨kvs, upd_same, ?_⟩⟩
  refine for_it (n := kvs.length) walk_keys (Pv od) (h0 od) (fun j σ H _ p => hk od j σ H p) (fun j x σ H1 H' hj p y => ?_) fun σ H p => ⟨hk od _ σ H p, fin od σ H p⟩
  obtain ⟨rfl, k, v, e, rfl⟩ := y
  exact hs od j k v σ _ e p
theorem noSqD {H : Hp} {d : Addr} {kvs : List (Key × V)} (h : H d = some (.dK kvs)) : NoSq H [d] := fun b hb => by
  rw [List.mem_singleton.mp hb, h]
  exact ⟨fun _ z => (by cases z), fun _ z => (by cases z), fun _ _ z => (by cases z)⟩
mutual
theorem dpM {K : PySem.W.Frag} {H H' : Hp} (hl : ∀ a xs, SqL K H a xs → SqL K H' a xs) (ht : ∀ a xs, SqT K H a xs → SqT K H' a xs) : ∀ {d : PyData} {v : V}, Dp K H v d → Dp K H' v d
  | _, _, .non => .non
  | _, _, .bl b => .bl b
  | _, _, .int i => .int i
  | _, _, .str x => .str x
  | _, _, .lst e h => .lst (hl _ _ e) (dpAllM hl ht h)
  | _, _, .tup e h => .tup (ht _ _ e) (dpAllM hl ht h)
theorem dpAllM {K : PySem.W.Frag} {H H' : Hp} (hl : ∀ a xs, SqL K H a xs → SqL K H' a xs) (ht : ∀ a xs, SqT K H a xs → SqT K H' a xs) : ∀ {ds : List PyData} {vs : List V}, DpAll K H vs ds → DpAll K H' vs ds
  | _, _, .nil => .nil
  | _, _, .cons h t => .cons (dpM hl ht h) (dpAllM hl ht t)
end
theorem unfL {K : PySem.W.Frag} {H : Hp} {d : Addr} {o : Obj} {kvs : List (Key × V)} {u : HO} (h : H d = some (.frz o (.dK kvs))) : ∀ a xs, SqL K H a xs → SqL K (upd H d u) a xs := fun a xs z => by
  rcases z with (z | ⟨o2, z⟩) | z
  · exact .inl (.inl (by rw [upd_ne (fun e => by rw [e, h] at z; cases z)]; exact z))
  · exact .inl (.inr ⟨o2, by rw [upd_ne (fun e => by rw [e, h] at z; cases z)]; exact z⟩)
  · exact .inr z
theorem unfT {K : PySem.W.Frag} {H : Hp} {d : Addr} {o : Obj} {kvs : List (Key × V)} {u : HO} (h : H d = some (.frz o (.dK kvs))) : ∀ a xs, SqT K H a xs → SqT K (upd H d u) a xs := fun a xs z => by
  rcases z with (z | ⟨o2, z⟩) | z
  · exact .inl (.inl (by rw [upd_ne (fun e => by rw [e, h] at z; cases z)]; exact z))
  · exact .inl (.inr ⟨o2, by rw [upd_ne (fun e => by rw [e, h] at z; cases z)]; exact z⟩)
  · exact .inr z
/-- over a loop: what stood before stands behind it -/
theorem Kp.unlock {H H' : Hp} {d : Addr} {o : Obj} {u : HO} (hd : H d = some u) (k : Kp [] (upd H d (.frz o u)) H') : Kp [] H (upd H' d u) := fun a x _ e => by
  by_cases z : a = d
  · subst z; rw [upd_same, ← hd, e]
  · rw [upd_ne z]
    exact k a x not0 (by rw [upd_ne z]; exact e)
theorem Kp.lock {H : Hp} {d : Addr} {u : HO} : Kp [d] H (upd H d u) := (Kp.refl [d] H).put (by simp)
end My

set_option Elab.async false
set_option linter.all false
set_option maxRecDepth 100000
set_option maxHeartbeats 4000000
/-! ### t[::-1], t a tuple of two items or more -/
namespace HT
open PySem PyProof.Rows
open PySem.SeqAt
open PySem.AutoSeq1 (wpAny_loadPart')
open PySem.MeetsSeq PySem.MeetsSeq2 PySem.MeetsSeq3
section
variable {prog : Program} {w : World} {A : Around} {E : Value → Shared → Prop} {s : Shared}
theorem adjust_rev (n : Nat) : Builtin.Slice.sliceAdjust none none (-1) (n : Int) = ((n : Int) - 1, -1) := by
  unfold Builtin.Slice.sliceAdjust
  simp
theorem places_rev (n : Nat) : Builtin.Slice.slicePlaces ((n : Int) - 1) (-1) (-1) = n := by
  unfold Builtin.Slice.slicePlaces
  simp
  omega
theorem pick_rev (xs : Array Value) : ((List.range xs.size).filterMap fun (m : Nat) => xs[((xs.size : Int) - 1 + (m : Int) * -1).toNat]?).toArray = xs.toList.reverse.toArray := by
  have e := pick_gen xs.toList.reverse.toArray 0 xs.size
  rw [List.drop_zero, List.take_of_length_le (by simp)] at e
  rw [show xs.toList.reverse.toArray.toList = xs.toList.reverse from rfl] at e
  rw [← e]
  congr 1
  have key : ∀ l : List Nat, (∀ m ∈ l, m < xs.size) → (l.filterMap fun (m : Nat) => xs[((xs.size : Int) - 1 + (m : Int) * -1).toNat]?) = l.filterMap fun (m : Nat) => xs.toList.reverse.toArray[(((0 : Nat) : Int) + (m : Int) * 1).toNat]? := fun l => by
    induction l with
    | nil => intro _; rfl
    | cons m l ih =>
      intro h
      have hm := h m List.mem_cons_self
      have e1 : ((xs.size : Int) - 1 + (m : Int) * -1).toNat = xs.size - 1 - m := by omega
      have e2 : (((0 : Nat) : Int) + (m : Int) * 1).toNat = m := by omega
      have e3 : xs[xs.size - 1 - m]? = xs.toList.reverse.toArray[m]? := by
        rw [show xs.toList.reverse.toArray[m]? = xs.toList.reverse[m]? from List.getElem?_toArray .., List.getElem?_reverse (by rw [Array.length_toList]; exact hm), Array.length_toList, Array.getElem?_toList]
      rw [List.filterMap_cons, List.filterMap_cons, e1, e2, e3, ih fun y hy => h y (List.mem_cons_of_mem _ hy)]
  exact key _ fun m hm => List.mem_range.mp hm
theorem sliceApplied_rev {sl : Addr} {vl vu vs : Value} {n : Nat} {Q : Int × Int × Nat → Shared → Prop} (hs : s.heap.IsSliceOf sl vl vu vs) (pl : IsPart vl none) (pu : IsPart vu none) (ps : IsPart vs (some (-1)))
    (h : Q ((n : Int) - 1, -1, n) s) : wpAny (model prog w) A (Builtin.Slice.sliceApplied (.ref sl) (pure (n : Int))) Q E s := by
  obtain ⟨os, hos, hcs, hds⟩ := id hs
  unfold Builtin.Slice.sliceApplied Builtin.Slice.sliceFields
  refine wpAny_bind (wpAny_bind (wpAny_field hos hds (x := vl) rfl (wpAny_bind (wpAny_field hos hds (x := vu) rfl (wpAny_bind (wpAny_field hos hds (x := vs) rfl (wpAny_pure ?_)))))))
  refine wpAny_bind (slicePart_ ps ?_)
  show wpAny _ _ (if ((-1 : Int) == 0) = true then _ else _) _ _ s
  rw [if_neg (by decide)]
  refine wpAny_bind (slicePart_ pl (wpAny_bind (slicePart_ pu (wpAny_bind (wpAny_pure ?_)))))
  show wpAny _ _ (match Builtin.Slice.sliceAdjust none none (-1) (n : Int) with | (lo, hi) => pure (lo, (-1 : Int), Builtin.Slice.slicePlaces lo hi (-1))) _ _ s
  rw [adjust_rev n]
  show wpAny _ _ (pure (((n : Int) - 1), (-1 : Int), Builtin.Slice.slicePlaces ((n : Int) - 1) (-1) (-1))) _ _ s
  rw [places_rev]
  exact wpAny_pure h
theorem getItem_tuple_rev {t sl : Addr} {items : Array Value} {vl vu vs : Value} {Q : Value → Shared → Prop} (ht : IsTup s.heap t items) (hs : s.heap.IsSliceOf sl vl vu vs) (pl : IsPart vl none) (pu : IsPart vu none) (ps : IsPart vs (some (-1)))
    (h : Q (.ref s.heap.objs.size) { s with heap := s.heap.push { cls := .type "tuple", data := .seq items.toList.reverse.toArray } })
    (hsz : items.size ≤ sizeLine) : wpAny (model prog w) A (getItem (.ref t) (.ref sl)) Q E s := by
  have htake : sizeOk (.seq items.toList.reverse.toArray) := by
    show items.toList.reverse.toArray.size ≤ sizeLine
    rw [List.size_toArray, List.length_reverse, Array.length_toList]
    exact hsz
  obtain ⟨os, hos, hcs, hds⟩ := id hs
  have hTs : s.TypeIs (.ref sl) "slice" := ⟨os, hos, hcs⟩
  unfold getItem
  try with_reducible refine wpAny_holding ?_
  first | refine wpAny_bind (wpAny_pure ?_) | skip
  refine wpAny_bind (wpAny_sequenceKey ht.typeIs (by decide) ?_)
  refine wpAny_bind (wpAny_callSpecial?_slot (name := Str.ofString "__getitem__") ht.typeIs PyProof.Rows.slot_tuple_getitem
    (wpAny_call_entry PyProof.Rows.slot_tuple_getitem ht.typeIs entry_tuple_getitem ?_ (args_tuple_getitem _ _)))
  show wpAny _ _ (Builtin.Tuple.tupleItemsOf (.ref t) >>= _) _ _ s
  refine wpAny_bind (tupleItemsOf_ ht ?_)
  refine wpAny_bind (wpAny_typeOf hTs ?_)
  rw [if_pos (by decide)]
  refine wpAny_bind (sliceApplied_rev hs pl pu ps ?_)
  have hno : ¬ ((((items.size : Int) - 1) == 0 && (-1 : Int) == 1 && items.size == items.size) = true) := by
    rw [show ((-1 : Int) == 1) = false from rfl, Bool.and_false, Bool.false_and]
    exact Bool.false_ne_true
  show wpAny _ _ (if (((items.size : Int) - 1) == 0 && (-1 : Int) == 1 && items.size == items.size) = true then _ else _) _ _ s
  rw [if_neg hno, pick_rev]
  first
    | exact wpAny_bind (m := Builtin.Tuple.tupleExact _) (wpAny_newObj_type (wpAny_pure ⟨_, rfl, wpAny_pure h⟩) htake)
    | exact wpAny_bind (m := Builtin.Tuple.tupleExact _) (wpAny_newObj_type (wpAny_bind (wpAny_pure (wpAny_pure ⟨_, rfl, wpAny_pure h⟩))) htake)
    | exact wpAny_bind (wpAny_bind (m := Builtin.Tuple.tupleExact _) (wpAny_newObj_type (wpAny_pure (wpAny_pure ⟨_, rfl, wpAny_pure h⟩)) htake))
    | exact wpAny_bind (wpAny_bind (m := Builtin.Tuple.tupleExact _) (wpAny_newObj_type (wpAny_pure ⟨_, rfl, wpAny_pure h⟩) htake))
end
end HT
namespace My
open PySem PySem.Spec PyProof.Rows L2
section
variable {X : Cx}
def tRevT (K : PySem.W.Frag) (te : TE) : TE := fun σ H Q => te σ H fun x H1 => ∃ a xs, x = .ref a ∧ SqT K H1 a xs ∧ ∀ p, H1 p = none → Q (.ref p) (upd H1 p (.tup xs.reverse))
theorem pe_revT {e : Expr} {te : TE} {k : Nat} {p1 p2 p3 pos : Pos} (he : PE X e te) : PE X (.Subscript e (.Slice none none (some (.UnaryOp .USub (.Constant (.int 1) k p1) p2)) p3) pos) (tRevT X.K te) := by
  refine ⟨fun pins s σ H Q I h => ?_⟩
  refine Subscript_ (thn (he.run pins s σ H _ I h) fun v s1 ⟨x, H1, I1, r1, q1⟩ => ?_)
  obtain ⟨a, xs, ex, hx, q⟩ := q1
  subst ex
  cases r1
  have hst : PO X (some (.UnaryOp .USub (.Constant (.int 1) k p1) p2)) (tPart (tUn (rU fun i => .int (-i)) (tC (.int 1)))) := po_some (pe_un un_neg pe_int)
  refine wpAny_Slice (thn (po_none.run pins s1 σ H1 (fun o H2 => o = none ∧ H2 = H1) I1 ⟨rfl, rfl⟩) fun vl s2 ⟨l, H2, I2, pl, el, e2⟩ => ?_)
  subst el e2
  refine thn (po_none.run pins s2 σ H2 (fun o H3 => o = none ∧ H3 = H2) I2 ⟨rfl, rfl⟩) fun vu s3 ⟨u, H3, I3, pu, eu, e3⟩ => ?_
  subst eu e3
  refine thn (hst.run pins s3 σ H3 (fun o H4 => o = some (-1) ∧ H4 = H3) I3 ⟨1, rfl, -1, rfl, rfl, rfl⟩) fun vs s4 ⟨o, H4, I4, ps, eo, e4⟩ => ?_
  subst eo e4
  have I5 : Inv X pins σ H4 { s4 with heap := s4.heap.push { cls := .type "slice", data := .fields #[vl, vu, vs] } } := I4.kept (t' := s4.toks) fun b ob q => Heap.get?_push_of_some _ q
  obtain ⟨its, r, ht, hz⟩ := I5.tuple hx
  have hlen := r.length
  show wpAny (model X.prog X.w) X.A (subscriptTail e (.Slice none none (some (.UnaryOp .USub (.Constant (.int 1) k p1) p2)) p3) (.ref a) (.ref s4.heap.objs.size)) (EP X pins σ Q) X.xe { s4 with heap := s4.heap.push { cls := .type "slice", data := .fields #[vl, vu, vs] } }
  refine tail_any (ops := [.ref a, .ref s4.heap.objs.size]) ht.typeIs (PyProof.Rows.slot_tuple_getitem.lookup) ?_ (by with_unfolding_all rfl)
  refine HT.getItem_tuple_rev ht (Heap.IsSliceOf.new _ vl vu vs) pl pu ps ?_ (by rw [List.size_toArray]; omega)
  refine ⟨.ref _, _, I5.laid (t' := s4.toks) (o := .tup xs.reverse) (fun b ob q => Heap.get?_push_of_some _ q) (Nat.le_refl _) ?_, rfl, q _ (I5.hok.fresh (Nat.le_refl _))⟩
  exact ⟨by rw [List.length_reverse]; omega, _, r.reverse, IsTup.new _ _⟩
end
end My

set_option Elab.async false
set_option linter.all false
set_option maxRecDepth 100000
set_option maxHeartbeats 4000000
/-! ### try with several clauses that bind the error -/
namespace My
open PySem PySem.Spec PyProof.Rows L2
/-- one clause: the class that it names, the slot of its name, its suite's reading -/
structure Cla where
  c : Value
  i : Nat
  ts : Addr → Value → Option Addr → TS
/-- behind a suite the name in slot i is gone -/
def Ends.off (i : Nat) (D : L2.Ends) : L2.Ends where
  nx σ H := D.nx (σ.set i none) H
  rt := D.rt
  bk σ H := D.bk (σ.set i none) H
  ct σ H := D.ct (σ.set i none) H
/-- what clauses, tried in turn, wish -/
def wClas (K : PySem.W.Frag) (W0 : WX) (D : L2.Ends) : List Cla → WX
  | [] => W0
  | k :: ks => fun cls d σ H => ∃ hit, PySem.W.exmOne K cls k.c = some hit ∧ (hit = true → ∀ a, H a = none → k.ts a cls d (Ends.off k.i D) (σ.set k.i (some (.ref a))) H) ∧ (hit = false → wClas K W0 D ks cls d σ H)
/-- the clauses as they are written -/
inductive Clauses (X : Cx) : List ExceptHandler → List Cla → Prop
  | nil : Clauses X [] []
  | cons {k : Cla} {ks : List Cla} {x n : Str} {b1 : Stmt} {bs : List Stmt} {p1 p2 : Pos} {hs : List ExceptHandler} (nm : Names X x k.c) (at_ : X.N[k.i]? = some n) (lo : X.env.kindOf n = some .local)
      (suite : ∀ (a : Addr) (oe : Obj) (cls : Value) (d : Option Addr) (pn : List (Addr × Obj)), Zc cls d oe → (∃ vs, oe.data = .fields vs) → PSs (X.suite a ((a, oe) :: pn)) (b1 :: bs) (k.ts a cls d)) (more : Clauses X hs ks) :
      Clauses X (.ExceptHandler (some (.Name x p1)) (some n) (b1 :: bs) p2 :: hs) (k :: ks)
section
variable {X : Cx} {pins : List (Addr × Obj)} {σ : L2.St} {H : Hp} {s0 sI : Shared} {h3 B : Heap} {a : Addr} {cls : Value} {d : Option Addr} {D : L2.Ends} {W0 : WX}
/-- the clauses are tried, the error being at a -/
theorem clauses_run (top : X.stack = X.env :: X.outer) (fr : X.env.frame = some X.env.locals) (nd : X.N.Nodup) (tk : Takes X W0) (J : Inv X pins σ H sI) (na : H a = none)
    (J' : ∀ h4, HandSPX.FlyingZ B (X.env :: X.outer) a (Zc cls d) h4 → h3.UpToSlots h4 → Inv X pins σ H { s0 with heap := h4 })
    (out : W0 cls d σ H → ∀ (h4 : Heap), HandSPX.HeldZ B (X.env :: X.outer) a (Zc cls d) X.env.locals h4 → h3.UpToSlots h4 → X.xe (.ref a) { s0 with heap := h4 })
    (fl : HandSPX.FlyingZ B (X.env :: X.outer) a (Zc cls d) h3) : ∀ {hs : List ExceptHandler} {ks : List Cla}, Clauses X hs ks → wClas X.K W0 D ks cls d σ H →
      wpAny (model X.prog X.w) X.A (handleBy (.ref a) X.env hs) (SP X pins D) X.xe { s0 with heap := h3 } := by
  have ok := J.ok
  have J3 := J' h3 fl (Heap.UpToSlots.refl _)
  have far : ∀ {h : Heap} {o : Obj} {vs : Array Value}, h.FunFrames B (X.env :: X.outer) → h.get? a = some o → o.data = .fields vs → a ∉ frs (X.env :: X.outer) := by
    intro h o vs ff e dd hm
    obtain ⟨_, o', e', other⟩ := ff.mem hm
    cases e.symm.trans e'
    exact other _ dd
  obtain ⟨oe, vs, he, hz, hd⟩ := fl.there
  have away := far fl.2.2.1 he hd
  have nL : a ≠ X.env.locals := by
    intro z
    exact away (List.mem_filterMap.mpr ⟨X.env, List.mem_cons_self, by rw [fr, z]⟩)
  have nF : a ∉ X.fs := by
    intro hm
    obtain ⟨e, me, q⟩ := List.mem_filterMap.mp hm
    exact away (List.mem_filterMap.mpr ⟨e, List.mem_cons_of_mem _ me, q⟩)
  have S3 := J3.suite he hd na nL nF
  intro hs ks C
  induction C with
  | nil =>
    intro q
    refine wpAny_handleBy_nil ?_
    obtain ⟨_, _, _, o1, v1, T1, _, _, e1, _, d1, f1, _⟩ := id fl
    unfold PySem.passOn
    refine wpAny_bind (wpAny_field e1 d1 f1 ?_)
    rw [if_neg (show ¬ ((Value.ref T1 == Value.none) = true) by simp)]
    have leave : wpAny (model X.prog X.w) X.A (setFlight (.ref a) X.env.frame) (fun _ s4 => wpAny (model X.prog X.w) X.A (throw (.ref a) : Sem Flow) (SP X pins D) X.xe s4) X.xe { s0 with heap := h3 } := by
      rw [fr]
      exact HandSPX.setFlight_upZ fl fun h4 held up => wpAny_throw (out q h4 held up)
    first | exact wpAny_bind (wpAny_pure (wpAny_bind leave)) | exact wpAny_bind leave
  | @cons k ks x n b1 bs p1 p2 hs nm at_ lo suite more ih =>
    rintro ⟨hit, e1, yes, no⟩
    refine wpAny_handleBy_cons (codeAny_handlers_test ?_) (by intro q; cases q)
    have looks : PySem.W.Looks (model X.prog X.w) h3 (typeOf (.ref a)) cls := by
      intro A Q E s kk q
      exact wpAny_typeOf_ref (kk _ _ he) (by rw [hz.1]; exact q)
    have named : ∀ {Q : Value → Shared → Prop} {E : Value → Shared → Prop}, Q k.c { s0 with heap := h3 } → wpAny (model X.prog X.w) (X.A.mark (some (.ref a))) (eval (.Name x p1) X.env) Q E { s0 with heap := h3 } := by
      intro Q E q
      obtain ⟨g1, g2, m1 | ⟨m1, m2, m3⟩⟩ := nm
      · exact ld_glob (X := X.suite a ((a, oe) :: (X.pn ++ pins))) S3 g1 m1 q g2
      · exact ld_blt (X := X.suite a ((a, oe) :: (X.pn ++ pins))) S3 g1 m1 m2 q m3 g2
    refine named ((PySem.W.exm_one (M := model X.prog X.w) J3.kIn looks e1).here ?_)
    cases hit with
    | false => exact (show wpAny _ X.A (handleBy (.ref a) X.env hs) _ _ _ from ih (no rfl))
    | true =>
      refine codeAny_handlers_suite_as (HandSPX.lands_againZ fl fun h4 fl4 up4 => ?_)
      have J4 := J' h4 fl4 up4
      obtain ⟨o4, v4, e4, z4, d4⟩ := fl4.there
      refine store_ok (X := X.suite a ((a, o4) :: (X.pn ++ pins))) (v := .ref a) (J4.suite e4 d4 na nL nF) nd at_ (.inl lo) rfl (fun s5 S5 => ?_) (.inr lo)
      refine wpAny_mono ((suite a o4 cls d (X.pn ++ pins) z4 ⟨_, d4⟩).run [] s5 _ H _ S5 (yes rfl a na)) ?_ fun _ _ z => z.elim
      rintro fl' s6 hsp
      have close : ∀ {τ : L2.St} {G : Hp} {Q : Shared → Prop}, Inv (X.suite a ((a, o4) :: (X.pn ++ pins))) [] τ G s6 → (∀ s7, Inv X pins (τ.set k.i none) G s7 → Q s7) →
          wpAny (model X.prog X.w) X.A (do bindName X.env n .none; unbindBehindTheSuite X.env n p2) (fun _ s7 => Q s7) X.xe s6 := fun S6 hq => gone_ok (S6.unsuite ok) nd at_ lo hq
      cases fl' with
      | ret u =>
        obtain ⟨v, τ, G, S6, r, q⟩ := hsp
        exact close S6 fun s7 J7 => ⟨_, _, _, J7, r, q⟩
      | _ =>
        obtain ⟨τ, G, S6, q⟩ := hsp
        exact close S6 fun s7 J7 => ⟨_, _, J7, q⟩
end
section
variable {X : Cx} {body : List Stmt} {h1 : ExceptHandler} {hs : List ExceptHandler} {ks : List Cla} {pos : Pos} {tb : WX → TS} {W0 : WX}
theorem ps_try_clauses (top : X.stack = X.env :: X.outer) (fr : X.env.frame = some X.env.locals) (nd : X.N.Nodup) (C : Clauses X (h1 :: hs) ks) (tk : Takes X W0)
    (hb : ∀ (W : WX) (pn : List (Addr × Obj)) (xe : Value → Shared → Prop), Takes (X.tr pn xe) W → PassesOwn (model X.prog X.w) X.A X.env xe → PSs (X.tr pn xe) body (tb W)) :
    PS X (.Try body (h1 :: hs) [] [] pos) (fun D σ H => tb (wClas X.K W0 D ks) D σ H) := by
  refine ⟨fun pins s σ H D I q0 => ?_⟩
  have ok := I.ok
  have frames : X.A.frames = some (X.env :: X.outer) := ok.frames.trans (by rw [top])
  let xe1 : Value → Shared → Prop := fun e s1 => wpAny (model X.prog X.w) X.A (noteFrame e X.env) (fun _ s2 => wpAny (model X.prog X.w) X.A (setFlight e none) (fun _ s3 => wpAny (model X.prog X.w) X.A (handleBy e X.env (h1 :: hs)) (SP X pins D) X.xe s3) X.xe s2) X.xe s1
  have takes : Takes (X.tr (X.pn ++ pins) xe1) (wClas X.K W0 D ks) := by
    rintro u s' ⟨a, B, sI, pins', σ', H', cls, d, rfl, J', nb, up, sky, na, os, ag, w⟩
    have J : Inv X pins σ' H' sI := J'.ofTry ok
    have sky' : Sky B (X.env :: X.outer) a (Zc cls d) X.env.locals s'.heap := by rw [← top]; exact sky
    refine Sky.land Zc.steady frames fr sky' fun h3 fl3 up3 => ?_
    refine clauses_run top fr nd tk J na (fun h4 fl4 up4 => J.landed nb fl4.1 ((up.trans up3).trans up4) os ag) (fun w0 h4 held up4 => ?_) fl3 C w
    exact tk _ _ ⟨a, B, sI, pins, σ', H', cls, d, rfl, J, nb, (up.trans up3).trans up4, .inr (.inr (by rw [top]; exact held)), na, os, ag, w0⟩
  refine wpAny_Try_except (wpAny_mono ((hb _ (X.pn ++ pins) xe1 takes PassesOwn.looking).run [] s σ H D (I.toTry _) q0) ?_ fun e s1 he => he)
  rintro f s1 hsp
  cases f with
  | next =>
    obtain ⟨τ, G, J, q⟩ := hsp
    exact wpAny_execs_nil ⟨τ, G, J.ofTry ok, q⟩
  | ret u =>
    obtain ⟨v, τ, G, J, r, q⟩ := hsp
    exact ⟨v, τ, G, J.ofTry ok, r, q⟩
  | _ =>
    obtain ⟨τ, G, J, q⟩ := hsp
    exact ⟨τ, G, J.ofTry ok, q⟩
end
section
variable {X : Cx} {body : List Stmt} {pos : Pos} {tb : WX → TS} {W0 : WX} {x1 n1 x2 n2 x3 n3 : Str} {c1 c2 c3 : Value} {i1 i2 i3 : Nat} {b1 b2 b3 : Stmt} {r1 r2 r3 : List Stmt} {p1 p2 p3 q1 q2 q3 : Pos} {t1 t2 t3 : Addr → Value → Option Addr → TS}
theorem ps_try_as2 (top : X.stack = X.env :: X.outer) (fr : X.env.frame = some X.env.locals) (nd : X.N.Nodup) (a1 : X.N[i1]? = some n1) (a2 : X.N[i2]? = some n2) (l1 : X.env.kindOf n1 = some .local) (l2 : X.env.kindOf n2 = some .local) (m1 : Names X x1 c1) (m2 : Names X x2 c2) (tk : Takes X W0)
    (hb : ∀ (W : WX) (pn : List (Addr × Obj)) (xe : Value → Shared → Prop), Takes (X.tr pn xe) W → PassesOwn (model X.prog X.w) X.A X.env xe → PSs (X.tr pn xe) body (tb W))
    (s1 : ∀ (a : Addr) (oe : Obj) (cls : Value) (d : Option Addr) (pn : List (Addr × Obj)), Zc cls d oe → (∃ vs, oe.data = .fields vs) → PSs (X.suite a ((a, oe) :: pn)) (b1 :: r1) (t1 a cls d))
    (s2 : ∀ (a : Addr) (oe : Obj) (cls : Value) (d : Option Addr) (pn : List (Addr × Obj)), Zc cls d oe → (∃ vs, oe.data = .fields vs) → PSs (X.suite a ((a, oe) :: pn)) (b2 :: r2) (t2 a cls d)) :
    PS X (.Try body [.ExceptHandler (some (.Name x1 p1)) (some n1) (b1 :: r1) q1, .ExceptHandler (some (.Name x2 p2)) (some n2) (b2 :: r2) q2] [] [] pos) (fun D σ H => tb (wClas X.K W0 D [⟨c1, i1, t1⟩, ⟨c2, i2, t2⟩]) D σ H) :=
  ps_try_clauses top fr nd (.cons m1 a1 l1 s1 (.cons m2 a2 l2 s2 .nil)) tk hb
theorem ps_try_as3 (top : X.stack = X.env :: X.outer) (fr : X.env.frame = some X.env.locals) (nd : X.N.Nodup) (a1 : X.N[i1]? = some n1) (a2 : X.N[i2]? = some n2) (a3 : X.N[i3]? = some n3) (l1 : X.env.kindOf n1 = some .local) (l2 : X.env.kindOf n2 = some .local) (l3 : X.env.kindOf n3 = some .local)
    (m1 : Names X x1 c1) (m2 : Names X x2 c2) (m3 : Names X x3 c3) (tk : Takes X W0)
    (hb : ∀ (W : WX) (pn : List (Addr × Obj)) (xe : Value → Shared → Prop), Takes (X.tr pn xe) W → PassesOwn (model X.prog X.w) X.A X.env xe → PSs (X.tr pn xe) body (tb W))
    (s1 : ∀ (a : Addr) (oe : Obj) (cls : Value) (d : Option Addr) (pn : List (Addr × Obj)), Zc cls d oe → (∃ vs, oe.data = .fields vs) → PSs (X.suite a ((a, oe) :: pn)) (b1 :: r1) (t1 a cls d))
    (s2 : ∀ (a : Addr) (oe : Obj) (cls : Value) (d : Option Addr) (pn : List (Addr × Obj)), Zc cls d oe → (∃ vs, oe.data = .fields vs) → PSs (X.suite a ((a, oe) :: pn)) (b2 :: r2) (t2 a cls d))
    (s3 : ∀ (a : Addr) (oe : Obj) (cls : Value) (d : Option Addr) (pn : List (Addr × Obj)), Zc cls d oe → (∃ vs, oe.data = .fields vs) → PSs (X.suite a ((a, oe) :: pn)) (b3 :: r3) (t3 a cls d)) :
    PS X (.Try body [.ExceptHandler (some (.Name x1 p1)) (some n1) (b1 :: r1) q1, .ExceptHandler (some (.Name x2 p2)) (some n2) (b2 :: r2) q2, .ExceptHandler (some (.Name x3 p3)) (some n3) (b3 :: r3) q3] [] [] pos) (fun D σ H => tb (wClas X.K W0 D [⟨c1, i1, t1⟩, ⟨c2, i2, t2⟩, ⟨c3, i3, t3⟩]) D σ H) :=
  ps_try_clauses top fr nd (.cons m1 a1 l1 s1 (.cons m2 a2 l2 s2 (.cons m3 a3 l3 s3 .nil))) tk hb
end
end My

set_option Elab.async false
set_option linter.all false
set_option maxRecDepth 100000
set_option maxHeartbeats 4000000
/-! ### methods and called objects within a try -/
namespace My
open PySem L2 StX PySem.Spec PyProof.Rows
def tMethT (C : Addr) (m : Str) (sp : Sp) (E : L2.St → XK) (ta : TE) (t : TA) : TE := fun σ H Q => ta σ H fun x H1 => ∃ a dx fs, x = .ref a ∧ H1 a = some (.ins C dx fs) ∧ fs.lookup m = none ∧ t σ H1 fun vs H2 => sp (.ref a :: vs) H2 Q (E σ)
section
variable {X : Cx} {CX : CXT} {C g : Addr} {fd : FuncData} {ps : List Str} {sp : Sp} {E : L2.St → XK} {k : Nat} {o e : Expr} {es : List Expr} {ta : TE} {t : TA} {pos apos : Pos} {m : Str} {f : Addr}
theorem pe_methT {pl : Sem Bool} (c : Cls X.K C) (hm : Meth X.K C m f) (F : FnOk X.prog X.w X.K X.mg X.base CX k f fd ps sp) (hr : Room k X.A) (hb : Binds X.K fd ps []) (hx : ∀ σ, PassesAt CX X σ (E σ)) (he : PE X o ta) (ha : PA X (e :: es) t)
    (hst : starEach (e :: es) X.env = (false, eval e X.env) :: starEach es X.env := by rfl) (hpl : (backTo pos (starEach es X.env)).any (·.1) = false := by rfl)
    (ht : eval (.Call (.Attribute o m apos) (e :: es) [] pos) X.env = (do
      let ov ← eval o X.env
      standAt apos.atName
      let (f, first) ← holding [ov] (getMethod ov m pl)
      callWith pos f first (backTo pos (starEach (e :: es) X.env)) (backToKw pos (keywordEach [] X.env))) := by rfl) :
    PE X (.Call (.Attribute o m apos) (e :: es) [] pos) (tMethT C m sp E ta t) := by
  refine ⟨fun pins s σ H Q I h => ?_⟩
  refine PySem.W.methodCall_KW (pl := pl) (thn (he.run pins s σ H _ I h) fun u s1 ⟨x, H1, I1, rx, a, dx, fs, ex, ea, l, q⟩ => ?_) ht
  subst ex
  obtain rfl : u = Value.ref a := rx
  refine getmeth_ok I1 ea c hm l ?_
  refine PySem.W.callWith_K (first := [.ref a]) (h₀ := X.base) I.ok.mod.kin hm.kp (thn (ha.run pos pins s1 σ H1 _ I1 q) fun us s2 ⟨vs, H2, I2, r, q2⟩ => ⟨I2.kIn, ?_⟩) hst hpl
  exact run_fnS (us := .ref a :: us) (vs := .ref a :: vs) F hr hb (hx σ) I2 (.cons rfl r) q2
def tCallOT (C : Addr) (sp : Sp) (E : L2.St → XK) (tf : TE) (t : TA) : TE := fun σ H Q => tf σ H fun y H1 => ∃ a, y = V.ref a ∧ t σ H1 fun vs H2 => (∃ dx fs, H2 a = some (.ins C dx fs)) ∧ sp (V.ref a :: vs) H2 Q (E σ)
theorem run_fnRS {pins : List (Addr × Obj)} {σ : L2.St} {H : Hp} {s : Shared} {f : Addr} {Q : VK} {E : L2.St → XK} {us : List Value} {vs : List V} (F : FnR X.prog X.w X.K X.mg X.base CX k f sp) (hr : Room k X.A) (hx : PassesAt CX X σ (E σ)) (I : Inv X pins σ H s) (r : Vals vs us) (h : sp vs H Q (E σ)) :
    codeAny (model X.prog X.w) X.A (.call (.ref f) ⟨us, []⟩) (fun r s' => match r with | .ok (.ret v) => EP X pins σ Q v s' | .ok _ => False | .error e => X.xe e s') s := by
  refine codeAny_mono (F X.A X.stack s H us vs Q (E σ) hr I.env0 r h) fun r s' hq => ?_
  cases r with
  | error e => exact hx pins H s e s' I hq
  | ok fl =>
    cases fl with
    | ret u => exact I.after hq
    | next => exact False.elim hq
    | brk => exact False.elim hq
    | cont => exact False.elim hq
theorem pe_callOT {fe : Expr} {tf : TE} (c : CallO X.K C g) (F : FnR X.prog X.w X.K X.mg X.base CX k g sp) (hr : Room k X.A) (hx : ∀ σ, PassesAt CX X σ (E σ)) (hf : PE X fe tf) (ha : PA X (e :: es) t)
    (ht : eval (.Call fe (e :: es) [] pos) X.env = (do callWith pos (← eval fe X.env) [] (backTo pos (starEach (e :: es) X.env)) (backToKw pos (keywordEach [] X.env))) := by rfl)
    (he : starEach (e :: es) X.env = (false, eval e X.env) :: starEach es X.env := by rfl) (hpl : (backTo pos (starEach es X.env)).any (·.1) = false := by rfl) : PE X (.Call fe (e :: es) [] pos) (tCallOT C sp E tf t) := by
  refine ⟨fun pins s σ H Q I h => ?_⟩
  refine Call_ (thn (hf.run pins s σ H _ I h) fun u s1 ⟨y, H1, I1, ry, a, ey, q⟩ => ?_) ht
  subst ey
  obtain rfl : u = Value.ref a := ry
  refine callO_with (thn (ha.run pos pins s1 σ H1 _ I1 q) fun us s2 ⟨vs, H2, I2, r, hi, q2⟩ => ?_) he hpl
  obtain ⟨ox, od, J, hd⟩ := insC_at I2 (.inr hi)
  exact ⟨⟨C, ox, od, J, hd⟩, wpAny_call (PySem.W.kco_code I2.kIn J hd c.at_ c.fn c.fi (run_fnRS (us := .ref a :: us) (vs := .ref a :: vs) F hr (hx σ) I2 (.cons rfl r) q2))⟩
end
end My

set_option Elab.async false
set_option linter.all false
set_option maxRecDepth 100000
set_option maxHeartbeats 4000000
/-! ### a quiet def, whatever exception is handled around its call -/
namespace My
open PySem PySem.Spec PyProof.Rows L2
structure RoomZ (k : Nat) (A : Around) : Prop where
  dep : A.depth + 3 * k + 5 < recursionLimit
  uni : A.units + 16 * k + 200 < cLine
/-- the room behind a mark is that ahead of it -/
theorem roomZ_mark {k : Nat} {A : Around} {v : Option Value} (r : Room k A) : RoomZ k (A.mark v) := ⟨r.dp, r.un⟩
def cxZ (CX : CXT) (P : Program) (w : World) (K : PySem.W.Frag) (mg : Str → Option Value) (base : Heap) (N : List Str) (qual : Str) (sc : Scope) (f : Addr) (cd : Value) (A : Around) (outer : List Env) (s : Shared) (H : Hp) (E : XK) : Cx := { cxOf CX P w K mg base N qual sc f cd A outer s H E with calm := false }
structure FnZ (P : Program) (w : World) (K : PySem.W.Frag) (mg : Str → Option Value) (base : Heap) (CX : CXT) (k : Nat) (f : Addr) (fd : FuncData) (ps : List Str) (sp : Sp) : Prop where
  len : ∀ vs H Q E, sp vs H Q E → vs.length = ps.length
  run : ∀ (A : Around) (outer : List Env) (s : Shared) (H : Hp) (ar : Args) (us : List Value) (vs : List V) (Q : VK) (E : XK), RoomZ k A → Env0 P w K mg base A outer s H → BindsTo s fd ar (ps.zip us) → Vals vs us → sp vs H Q E → codeAny (model P w) A (.call (.ref f) ar) (CR CX outer P w H s Q E) s
section
variable {CX : CXT} {P : Program} {w : World} {K : PySem.W.Frag} {mg : Str → Option Value} {base : Heap} {N ps : List Str} {qual : Str} {sc : Scope} {f : Addr} {cd : Value} {k : Nat} {sp : Sp}
theorem e0_free {A : Around} {outer : List Env} {s : Shared} {H : Hp} (e : Env0 P w K mg base A outer s H) : Env0 P w K mg base { A with handled := none } outer s H := ⟨e.frames, e.mod, e.bs, e.bsz, e.funs, e.frf, e.hok, e.bare⟩
theorem inv_startZ {A : Around} {outer : List Env} {s s1 : Shared} {H : Hp} {E : XK} {us : List Value} {vs : List V} (S : FnScope N ps sc) (e0 : Env0 P w K mg base A outer s H) (hl : vs.length = ps.length) (r : Vals vs us)
    (x : InCallC s s.heap.objs.size (bindL (envOfC qual sc s.heap.objs.size f cd).kindOf (ps.zip us) fun _ => none) (cellsFrom (s.heap.objs.size + 1) sc.names []) (bindC (envOfC qual sc s.heap.objs.size f cd).kindOf (ps.zip us) fun _ => none) s1) : Inv (cxZ CX P w K mg base N qual sc f cd A outer s H E) [] (L2.start N vs) H s1 := by
  have J := inv_start (CX := CX) (E := E) (A := { A with handled := none }) S rfl (e0_free e0) hl r x
  have o := J.ok
  exact ⟨⟨o.mod, o.kind, o.glob, o.blt, o.above, o.inj, o.has, o.cab, fun z => (by cases z), Around.frames_deeper e0.frames, o.stk, o.exf, o.bs, o.bsz, o.noex, o.exfs, o.funs, o.frf⟩, J.os, J.bare, J.base, J.loc, J.cell, J.free, J.freeC, J.pin, J.hok, J.len⟩
theorem fn_ofZ {name : Str} {params : Arguments} {body : List Stmt} {dV kV doc pm ct oc : Value} {an od : Option Addr} {osl : Array (Option Value)} (lk : K.lookup f = some ⟨oc, od, .func (PySem.W.fnOf name qual params body sc dV kV doc pm an cd ct), osl⟩) (hcd : PySem.W.codeIn K cd qual = true) (S : FnScope N ps sc)
    (len : ∀ vs H Q E, sp vs H Q E → vs.length = ps.length)
    (todo : ∀ (A : Around) (outer : List Env) (s : Shared) (H : Hp) (vs : List V) (Q : VK) (E : XK), sp vs H Q E → ∃ t, PSs (cxZ CX P w K mg base N qual sc f cd A outer s H E) body t ∧ t { nx := fun _ H' => Q .non H', rt := Q } (L2.start N vs) H) :
    FnZ P w K mg base CX (k + 1) f (PySem.W.fnOf name qual params body sc dV kV doc pm an cd ct) ps sp := by
  refine ⟨len, fun A outer s H ar us vs Q E room e0 bnd vals hsp => ?_⟩
  have kin : K.In s.heap := e0.mod.kin.keeps fun b o z => (e0.bs b o z).1
  have nolim : s.heap.NoLimit := e0.mod.nolimit.keeps fun b o z => (e0.bs b o z).1
  have dep : A.depth < recursionLimit := by
    have := room.dep
    omega
  refine codeAny_call_function dep (kin _ _ lk) rfl S.co S.gen rfl (PySem.W.codeRec_of kin hcd) (bnd _ _ _ _ ?_)
  have kinds : ∀ y ∈ ps.zip us, sc.names.lookup y.1 = some .local ∨ (sc.names.lookup y.1 = some .cell ∧ ((cellsFrom (s.heap.objs.size + 1) sc.names []).lookup y.1).isSome = true) := fun ⟨n, v⟩ hy =>
    (S.par n (List.of_mem_zip hy).1).imp id fun z => ⟨z, PySem.W.cellsFrom_some _ _ _ (.inl z)⟩
  refine wpAny_newFunctionEnv_cells S.kind kinds fun env he s1 x => ?_
  cases he
  refine ⟨nolim.keeps x.toInCall.keep, codeAny_func ?_⟩
  obtain ⟨t, ht, hq⟩ := todo A outer s H vs Q E hsp
  have I := inv_startZ (CX := CX) (E := E) (cd := cd) S e0 (len _ _ _ _ hsp) vals x
  refine wpAny_mono (ht.run [] s1 (L2.start N vs) H _ I hq) (fun fl s' done => ?_) fun e s' z => z
  cases fl with
  | ret u =>
    obtain ⟨v, σ', H', J, rv, z⟩ := done
    exact ⟨v, H', J.os, J.bare, J.base, J.hok, rv, z⟩
  | next =>
    obtain ⟨σ', H', J, z⟩ := done
    exact ⟨V.non, H', J.os, J.bare, J.base, J.hok, rfl, z⟩
  | brk => obtain ⟨_, _, _, z⟩ := done; exact z.elim
  | cont => obtain ⟨_, _, _, z⟩ := done; exact z.elim
end
section
variable {X : Cx} {CX : CXT} {k : Nat} {f : Addr} {fd : FuncData} {ps : List Str} {sp : Sp} {E : L2.St → XK} {x : Str} {q pos : Pos} {e : Expr} {es : List Expr} {t : TA}
theorem pe_callZ (F : FnZ X.prog X.w X.K X.mg X.base CX k f fd ps sp) (hr : RoomZ k X.A) (hg : Gl X x) (hm : X.mg x = some (.ref f)) (hk : PySem.W.keepIn X.K (.ref f) = true) (hb : Binds X.K fd ps []) (hx : ∀ σ, PassesAt CX X σ (E σ))
    (ha : PA X (e :: es) t) (hdb : (x == ("__debug__" : Str)) = false := by decide) (he : starEach (e :: es) X.env = (false, eval e X.env) :: starEach es X.env := by rfl) (hpl : (backTo pos (starEach es X.env)).any (·.1) = false := by rfl) : PE X (.Call (.Name x q) (e :: es) [] pos) (tCallS sp E t) := by
  refine ⟨fun pins s σ H Q I h => wpAny_Call_Name_kw (ld_glob I hg hm (PySem.W.callWith_K (h₀ := X.base) I.ok.mod.kin hk (thn (ha.run pos pins s σ H _ I h) fun us s1 ⟨vs, H1, I1, r, z⟩ => ⟨I1.kIn, ?_⟩) he hpl) hdb)⟩
  have hl : us.length = ps.length := r.length.symm.trans (F.len _ _ _ _ z)
  have b := hb s1 us I1.kIn (by rw [List.append_nil]; exact hl)
  rw [List.append_nil] at b
  refine wpAny_call (codeAny_mono (F.run X.A X.stack s1 H1 ⟨us, []⟩ us vs Q (E σ) hr I1.env0 b r z) fun r s' hq => ?_)
  cases r with
  | error e => exact hx σ pins H1 s1 e s' I1 hq
  | ok fl => cases fl with
    | ret u => exact I1.after hq
    | next => exact hq.elim
    | brk => exact hq.elim
    | cont => exact hq.elim
end
end My

set_option Elab.async false
set_option linter.all false
set_option maxRecDepth 100000
set_option maxHeartbeats 4000000
/-! ### tuples that stand; rows of related things; small loops -/
namespace My
open PySem L2 NdefX
theorem len_app (x y : Str) : (x ++ y).length = x.length + y.length := Array.size_append
theorem take_snoc {α : Type} {l : List α} {i : Nat} {x : α} (h : l[i]? = some x) : l.take (i + 1) = l.take i ++ [x] := by
  rw [List.take_add_one, h]; rfl
/-- tuples stand as they did -/
def Tp (H H' : Hp) : Prop := ∀ a xs, H a = some (.tup xs) → H' a = some (.tup xs)
theorem Tp.refl (H : Hp) : Tp H H := fun _ _ h => h
theorem Tp.trans {H H1 H2 : Hp} (a : Tp H H1) (b : Tp H1 H2) : Tp H H2 := fun c xs h => b c xs (a c xs h)
theorem Kp.tps {H H' : Hp} (k : Kp [] H H') : Tp H H' := fun a xs h => k a _ not0 h
theorem Tp.putN {H H' : Hp} {l : Addr} {o : HO} (t : Tp H H') (h : ∀ xs, H' l ≠ some (.tup xs)) : Tp H (upd H' l o) := fun a xs e => by
  have z : a ≠ l := fun z => h xs (by rw [← z]; exact t a xs e)
  rw [upd_ne z]; exact t a xs e
theorem Tp.putL {H H' : Hp} {l : Addr} {o : HO} {ys : List V} (t : Tp H H') (h : H' l = some (.lst ys)) : Tp H (upd H' l o) := t.putN fun xs z => by rw [h] at z; cases z
theorem Tp.putI {H H' : Hp} {l C dx : Addr} {o : HO} {fs : List (Str × V)} (t : Tp H H') (h : H' l = some (.ins C dx fs)) : Tp H (upd H' l o) := t.putN fun xs z => by rw [h] at z; cases z
theorem Tp.new {H H' : Hp} {l : Addr} {o : HO} (t : Tp H H') (h : H' l = none) : Tp H (upd H' l o) := t.putN fun xs z => by rw [h] at z; cases z
theorem Kp.tpsI {H H' : Hp} {o C dx : Addr} {fs : List (Str × V)} (k : Kp [o] H H') (h : H o = some (.ins C dx fs)) : Tp H H' := fun a xs e => k a _ (not1 fun z => by rw [z, h] at e; cases e) e
theorem Kp.tpsL {H H' : Hp} {o : Addr} {ys : List V} (k : Kp [o] H H') (h : H o = some (.lst ys)) : Tp H H' := fun a xs e => k a _ (not1 fun z => by rw [z, h] at e; cases e) e
/-- one by one related -/
structure Rw {α : Type} (R : V → α → Prop) (us : List V) (gs : List α) : Prop where
  len : us.length = gs.length
  get : ∀ {i : Nat} {u : V}, us[i]? = some u → ∃ g, gs[i]? = some g ∧ R u g
theorem Rw.nil {α : Type} {R : V → α → Prop} : Rw R [] [] := ⟨rfl, fun e => nomatch e⟩
theorem Rw.mono {α : Type} {R R' : V → α → Prop} {us : List V} {gs : List α} (h : Rw R us gs) (f : ∀ u g, R u g → R' u g) : Rw R' us gs := ⟨h.len, fun e => by
  obtain ⟨g, a, b⟩ := h.get e
  exact ⟨g, a, f _ _ b⟩⟩
theorem Rw.at {α : Type} {R : V → α → Prop} {us : List V} {gs : List α} (h : Rw R us gs) {i : Nat} {g : α} (e : gs[i]? = some g) : ∃ u, us[i]? = some u ∧ R u g := by
  have il : i < us.length := by rw [h.len]; exact (List.getElem?_eq_some_iff.mp e).1
  obtain ⟨g', a, b⟩ := h.get (List.getElem?_eq_getElem il)
  rw [e] at a; cases a
  exact ⟨_, List.getElem?_eq_getElem il, b⟩
theorem Rw.cons {α : Type} {R : V → α → Prop} {us : List V} {gs : List α} {u : V} {g : α} (h : R u g) (t : Rw R us gs) : Rw R (u :: us) (g :: gs) := ⟨by simp [t.len], fun {i x} e => by
  cases i with
  | zero => cases e; exact ⟨g, rfl, h⟩
  | succ i => exact t.get (i := i) e⟩
theorem Rw.app {α : Type} {R : V → α → Prop} {us vs : List V} {gs hs : List α} (a : Rw R us gs) (b : Rw R vs hs) : Rw R (us ++ vs) (gs ++ hs) := ⟨by simp [a.len, b.len], fun {i x} e => by
  rcases Nat.lt_or_ge i us.length with z | z
  · rw [List.getElem?_append_left z] at e
    rw [List.getElem?_append_left (by rw [← a.len]; exact z)]
    exact a.get e
  · rw [List.getElem?_append_right z] at e
    rw [List.getElem?_append_right (by rw [← a.len]; exact z), ← a.len]
    exact b.get e⟩
theorem Rw.snoc {α : Type} {R : V → α → Prop} {us : List V} {gs : List α} {u : V} {g : α} (t : Rw R us gs) (h : R u g) : Rw R (us ++ [u]) (gs ++ [g]) := t.app (.cons h .nil)
theorem Rw.take {α : Type} {R : V → α → Prop} {us : List V} {gs : List α} (h : Rw R us gs) (n : Nat) : Rw R (us.take n) (gs.take n) := ⟨by simp [h.len], fun {i x} e => by
  rcases Nat.lt_or_ge i n with z | z
  · rw [List.getElem?_take_of_lt z] at e ⊢
    exact h.get e
  · rw [List.getElem?_take, if_neg (by omega)] at e; cases e⟩
theorem Rw.set {α : Type} {R : V → α → Prop} {us : List V} {gs : List α} {u : V} {g : α} (h : Rw R us gs) (n : Nat) (r : R u g) : Rw R (us.set n u) (gs.set n g) := ⟨by simp [h.len], fun {i x} e => by
  rcases Nat.decEq n i with z | z
  · rw [List.getElem?_set_ne z] at e ⊢
    exact h.get e
  · subst z
    have hl := (List.getElem?_eq_some_iff.mp e).1
    rw [List.length_set] at hl
    rw [List.getElem?_set_self hl] at e
    cases e
    exact ⟨g, by rw [List.getElem?_set_self (by rw [← h.len]; exact hl)], r⟩⟩
theorem Rw.tail {α : Type} {R : V → α → Prop} {u : V} {us : List V} {g : α} {gs : List α} (h : Rw R (u :: us) (g :: gs)) : R u g ∧ Rw R us gs := by
  obtain ⟨g', e, r⟩ := h.get (i := 0) rfl
  cases e
  exact ⟨r, by have := h.len; simpa using this, fun {i x} e => h.get (i := i + 1) e⟩
theorem Rw.isNil {α : Type} {R : V → α → Prop} {us : List V} (h : Rw R us ([] : List α)) : us = [] := List.eq_nil_of_length_eq_zero h.len
theorem Rw.ex {α : Type} {R : V → α → Prop} {us : List V} {g : α} {gs : List α} (h : Rw R us (g :: gs)) : ∃ u r, us = u :: r ∧ R u g ∧ Rw R r gs := by
  cases us with
  | nil => cases h.len
  | cons u r => exact ⟨u, r, rfl, h.tail⟩
theorem Rw.last {α : Type} {R : V → α → Prop} {us : List V} {gi : List α} {g : α} (h : Rw R us (gi ++ [g])) : ∃ ui u, us = ui ++ [u] ∧ Rw R ui gi ∧ R u g := by
  have e : (gi ++ [g])[gi.length]? = some g := by simp
  obtain ⟨u, eu, r⟩ := h.at e
  have hl : us.length = gi.length + 1 := by rw [h.len]; simp
  refine ⟨us.take gi.length, u, ?_, ?_, r⟩
  · rw [← take_snoc eu, List.take_of_length_le (by omega)]
  · have := h.take gi.length
    rw [List.take_left' rfl] at this
    exact this
theorem ixN_last {n : Nat} : ixN (n + 1) (-1) = some n := by
  unfold ixN
  rw [if_neg (by decide), if_pos (by omega)]
  congr 1
  omega
theorem seqIx {n : Nat} {i : Int} (h0 : 0 ≤ i) (h : i < n) : seqIndex? i n = some i.toNat := by
  have e : (if i < 0 then i + (n : Int) else i) = i := if_neg (by omega)
  unfold seqIndex?
  simp only [e, h0, h, decide_true, Bool.and_true, if_true]
theorem perm_erase : ∀ (l : List Int) (k : Nat) (h : k < l.length), (l[k] :: l.eraseIdx k).Perm l
  | [], k, h => absurd h (Nat.not_lt_zero k)
  | a :: r, 0, h => List.Perm.refl _
  | a :: r, k + 1, h => by
    have h' : k < r.length := by simpa using h
    show (r[k] :: a :: r.eraseIdx k).Perm (a :: r)
    exact (List.Perm.swap a r[k] _).trans ((perm_erase r k h').cons a)
/-- v is a tracked tuple of the ints xs -/
def TI (H : Hp) (v : V) (xs : List Int) : Prop := ∃ a, v = .ref a ∧ H a = some (.tup (xs.map V.int))
theorem TI.tp {H H' : Hp} {v : V} {xs : List Int} (h : TI H v xs) (t : Tp H H') : TI H' v xs := by
  obtain ⟨a, e, h⟩ := h
  exact ⟨a, e, t _ _ h⟩
theorem TI.kp {H H' : Hp} {v : V} {xs : List Int} (h : TI H v xs) (t : Kp [] H H') : TI H' v xs := h.tp t.tps
theorem TI.dp {K : PySem.W.Frag} {H : Hp} {v : V} {xs : List Int} (h : TI H v xs) : Dp K H v (.tuple (xs.map PyData.int)) := by
  obtain ⟨a, rfl, h⟩ := h
  refine .tup (sq_t h) ?_
  clear h
  induction xs with
  | nil => exact .nil
  | cons x r ih => exact .cons (.int x) ih
theorem map_get {α : Type} {f : Int → α} {xs : List Int} {i : Nat} {x : α} (h : (xs.map f)[i]? = some x) : ∃ k, xs[i]? = some k ∧ x = f k := by
  rw [List.getElem?_map] at h
  cases e : xs[i]? with
  | none => rw [e] at h; cases h
  | some k => rw [e] at h; cases h; exact ⟨k, rfl, rfl⟩
theorem rwInts (xs : List Int) : Rw (fun v x => v = V.int x) (xs.map V.int) xs := ⟨by simp, fun e => by
  obtain ⟨k, e, h⟩ := map_get e
  exact ⟨k, e, h⟩⟩
theorem rwInts_eq {us : List V} {xs : List Int} (h : Rw (fun v x => v = V.int x) us xs) : us = xs.map V.int := by
  apply List.ext_getElem?
  intro i
  cases e : us[i]? with
  | none =>
    rw [List.getElem?_eq_none_iff] at e
    rw [List.getElem?_eq_none (by rw [List.length_map, ← h.len]; exact e)]
  | some u =>
    obtain ⟨x, ex, rfl⟩ := h.get e
    rw [List.getElem?_map, ex]; rfl
theorem inV_int {z : Int} : ∀ {ks : List Int}, inV (.int z) (ks.map V.int) = decide (z ∈ ks)
  | [] => rfl
  | k :: ks => by
    have e : inV (.int z) ((k :: ks).map V.int) = ((k == z) || inV (.int z) (ks.map V.int)) := rfl
    rw [e, inV_int (ks := ks)]
    by_cases h : k = z
    · rw [h, beq_self_eq_true, Bool.true_or, decide_eq_true List.mem_cons_self]
    · rw [beq_eq_false_iff_ne.mpr h, Bool.false_or]
      refine decide_eq_decide.mpr ⟨fun q => List.mem_cons_of_mem _ q, fun q => ?_⟩
      rcases List.mem_cons.mp q with q | q
      · exact absurd q.symm h
      · exact q
theorem flat_ints (ys : List Int) : (ys.map V.int).all flatV = true := by
  rw [List.all_map]
  exact List.all_eq_true.mpr fun _ _ => rfl
/-- int(x) -/
def rInt1 : List V → Hp → VK → Prop := fun xs H Q => (∃ i, xs = [V.int i] ∧ Q (V.int i) H) ∨ ∃ k, xs = [V.bl k] ∧ Q (V.int (if k = true then 1 else 0)) H
theorem rInt1_int {i : Int} {H : Hp} {Q : VK} : rInt1 [V.int i] H Q = Q (V.int i) H := by
  unfold rInt1
  simp
theorem rInt1_bl {k : Bool} {H : Hp} {Q : VK} : rInt1 [V.bl k] H Q = Q (V.int (if k = true then 1 else 0)) H := by
  unfold rInt1
  simp
theorem forRg {ta : TA} {g : TG} {tb : TS} {D : Ends} {σ : L2.St} {H : Hp} (m : Int) (Pv : Nat → L2.St → Hp → Prop) (ht : ∀ R : List V → Hp → Prop, R [.int m] H → ta σ H R) (h1 : -(2 ^ 62) ≤ m) (h2 : m < 2 ^ 62) (h0 : Pv 0 σ H)
    (step : ∀ j σ H, j < m.toNat → Pv j σ H → g (.int (0 + j)) σ H fun σ2 H2 => tb { D with nx := Pv (j + 1), ct := Pv (j + 1), bk := D.nx } σ2 H2) (fin : ∀ σ H, Pv m.toNat σ H → D.nx σ H) : tFor (iRng1 ta) g tb D σ H :=
  ht _ ⟨m, rfl, h1, h2, for_range Pv h0 step fin⟩
/-- .. by a count -/
theorem forN {ta : TA} {g : TG} {tb : TS} {D : Ends} {σ : L2.St} {H : Hp} (m : Nat) (hm : m ≤ 100000) (Pv : Nat → L2.St → Hp → Prop) (ht : ∀ R : List V → Hp → Prop, R [.int (m : Nat)] H → ta σ H R) (h0 : Pv 0 σ H)
    (step : ∀ j σ H, j < m → Pv j σ H → g (.int (j : Nat)) σ H fun σ2 H2 => tb { D with nx := Pv (j + 1), ct := Pv (j + 1), bk := D.nx } σ2 H2) (fin : ∀ σ H, Pv m σ H → D.nx σ H) : tFor (iRng1 ta) g tb D σ H :=
  forRg (m : Nat) Pv ht (by omega) (by omega) h0 (fun j σ H hj p => by rw [Int.zero_add]; exact step j σ H (by omega) p) fun σ H p => fin σ H (by rw [Int.toNat_natCast] at p; exact p)
theorem lcRgN {ta : TA} {g : TG} {tt : TT} {te : TE} {vs : List Nat} {σ : L2.St} {H : Hp} {Q : VK} (m : Nat) (hm : m ≤ 100000) (Pv : Addr → Nat → Hp → Prop) (ht : ∀ R : List V → Hp → Prop, R [.int (m : Nat)] H → ta σ H R) (h0 : ∀ o, H o = none → Pv o 0 (upd H o (.lst [])))
    (step : ∀ o i H', H o = none → i < m → Pv o i H' → g (.int (i : Nat)) (wipe σ vs) H' fun σ2 H2 => wipe σ2 vs = wipe σ vs ∧ tt σ2 H2 fun b H3 => if b = true then te σ2 H3 fun y H4 => ∃ acc, H4 o = some (.lst acc) ∧ acc.length < sizeLine ∧ Pv o (i + 1) (upd H4 o (.lst (acc ++ [y]))) else Pv o (i + 1) H3)
    (fin : ∀ o H', H o = none → Pv o m H' → Q (.ref o) H') : tLc (iRng1 ta) g tt te vs σ H Q :=
  ht _ ⟨(m : Nat), rfl, by omega, by omega, fun o no => lc_range (Pv o) (h0 o no) (fun i H' hi p => by rw [Int.zero_add]; exact step o i H' no (by omega) p) fun H' p => fin o H' no (by rw [Int.toNat_natCast] at p; exact p)⟩
/-- [f(k) for k in range(m)], each item told by its number -/
theorem lcRgF {α : Type} {ta : TA} {j : Nat} {te : TE} {σ : L2.St} {H : Hp} {Q : VK} (m : Nat) (hm : m ≤ 100000) (R : Hp → V → α → Prop) (f : Nat → α) (mono : ∀ H H' v x, Tp H H' → R H v x → R H' v x) (hj : j < σ.length) (ht : ∀ R : List V → Hp → Prop, R [.int (m : Nat)] H → ta σ H R)
    (body : ∀ (i : Nat) H' (Q' : VK), i < m → Kp [] H H' → (∀ v H2, R H2 v (f i) → Kp [] H' H2 → Q' v H2) → te ((wipe σ [j]).set j (some (.int (i : Nat)))) H' Q')
    (fin : ∀ o us H', H o = none → H' o = some (.lst us) → Rw (R H') us ((List.range m).map f) → Kp [] H H' → Q (.ref o) H') : tLc (iRng1 ta) (gName j) tYes te [j] σ H Q :=
  lcRgN m hm (fun o i H' => ∃ us, H' o = some (.lst us) ∧ Rw (R H') us ((List.range i).map f) ∧ Kp [] H H') ht (fun o no => ⟨[], upd_same, .nil, Kp.new no⟩) (fun o i H' no hi ⟨us, ho, hr, k⟩ => by
    refine ⟨by simp [wipe], ?_⟩
    simp only [tYes, if_true]
    refine body i H' _ hi k fun v H2 hv k2 => ?_
    have ho2 := k2 _ _ not0 ho
    have tp2 : Tp H' (upd H2 o (.lst (us ++ [v]))) := k2.tps.putL ho2
    have tp3 : Tp H2 (upd H2 o (.lst (us ++ [v]))) := (Tp.refl H2).putL ho2
    refine ⟨us, ho2, smallL (by have := hr.len; rw [this, List.length_map, List.length_range]; omega), us ++ [v], upd_same, ?_, (k.trans k2).wr no⟩
    rw [List.range_succ, List.map_append]
    exact (hr.mono fun u g r => mono _ _ _ _ tp2 r).snoc (mono _ _ _ _ tp3 hv)) fun o H' no ⟨us, ho, hr, k⟩ => fin o us H' no ho hr k
/-- [x for x in t if b(x)], t a tuple of ints -/
theorem lcFilt {K : PySem.W.Frag} {tv : TE} {j : Nat} {tt : TT} {te : TE} {σ : L2.St} {H : Hp} {Q : VK} {a : Addr} {xs : List Int} (b : Int → Bool) (hv : ∀ R : VK, R (.ref a) H → tv σ H R) (ha : SqT K H a (xs.map V.int)) (hl : xs.length ≤ 1000) (hj : j < σ.length)
    (test : ∀ x H' (R : Bool → Hp → Prop), x ∈ xs → Kp [] H H' → R (b x) H' → tt ((wipe σ [j]).set j (some (.int x))) H' R)
    (elt : ∀ x H' (R : VK), R (.int x) H' → te ((wipe σ [j]).set j (some (.int x))) H' R)
    (fin : ∀ D H', H D = none → H' D = some (.lst ((xs.filter b).map V.int)) → Kp [] H H' → Q (.ref D) H') :
    tLc (iTup K tv) (gName j) tt te [j] σ H Q := by
  unfold tLc iTup
  refine hv _ ⟨a, rfl, ⟨_, ha⟩, fun D nD => ?_⟩
  refine lc_tup (xs := xs.map V.int) (fun i H' => H' D = some (.lst (((xs.take i).filter b).map V.int)) ∧ Kp [] H H') ⟨upd_same, Kp.new nD⟩ (fun i H' _ h => h.2.tp not0 ha) (fun i x H' hx h => ?_) fun H' h => ?_
  · obtain ⟨k, ek, rfl⟩ := map_get hx
    obtain ⟨hD, kp⟩ := h
    refine ⟨by simp [wipe], ?_⟩
    refine test k H' _ (List.mem_of_getElem? ek) kp ?_
    cases hb : b k with
    | true =>
      rw [if_pos rfl]
      refine elt k H' _ ⟨_, hD, ?_, ?_, kp.wr nD⟩
      · rw [List.length_map]
        have := List.length_filter_le b (xs.take i)
        rw [List.length_take] at this
        exact smallL (by omega)
      · rw [upd_same, take_snoc ek, List.filter_append]
        simp [hb]
    | false =>
      rw [if_neg (by simp)]
      refine ⟨?_, kp⟩
      rw [take_snoc ek, List.filter_append]
      simpa [hb] using hD
  · obtain ⟨hD, kp⟩ := h
    rw [List.length_map, List.take_length] at hD
    exact fin D H' nD hD kp
/-- [f(x) for x in t], t a tuple -/
theorem lcMapT {α β : Type} {K : PySem.W.Frag} {tv : TE} {j : Nat} {te : TE} {σ : L2.St} {H : Hp} {Q : VK} {a : Addr} {us : List V} {gs : List α} {R : Hp → V → α → Prop} (mono : ∀ H H' v x, Tp H H' → R H v x → R H' v x) (f : α → β) (put : β → V) (hv : ∀ R : VK, R (.ref a) H → tv σ H R) (ha : SqT K H a us) (hr : Rw (R H) us gs) (hl : gs.length ≤ 1000) (hj : j < σ.length)
    (elt : ∀ v x H' (Q' : VK), x ∈ gs → R H' v x → Kp [] H H' → (∀ H2, Kp [] H' H2 → Q' (put (f x)) H2) → te ((wipe σ [j]).set j (some v)) H' Q')
    (fin : ∀ D H', H D = none → H' D = some (.lst (gs.map fun x => put (f x))) → Kp [] H H' → Q (.ref D) H') :
    tLc (iTup K tv) (gName j) tYes te [j] σ H Q := by
  unfold tLc iTup
  refine hv _ ⟨a, rfl, ⟨_, ha⟩, fun D nD => ?_⟩
  refine lc_tup (xs := us) (fun i H' => H' D = some (.lst ((gs.take i).map fun x => put (f x))) ∧ Kp [] H H') ⟨upd_same, Kp.new nD⟩ (fun i H' _ h => h.2.tp not0 ha) (fun i x H' hx h => ?_) fun H' h => ?_
  · obtain ⟨g, eg, hg⟩ := hr.get hx
    obtain ⟨hD, kp⟩ := h
    refine ⟨by simp [wipe], ?_⟩
    simp only [tYes, if_true]
    refine elt x g H' _ (List.mem_of_getElem? eg) (mono _ _ _ _ kp.tps hg) kp fun H2 k2 => ?_
    refine ⟨_, k2 _ _ not0 hD, ?_, ?_, (kp.trans k2).wr nD⟩
    · rw [List.length_map, List.length_take]; exact smallL (by omega)
    · rw [upd_same, take_snoc eg, List.map_append]; rfl
  · obtain ⟨hD, kp⟩ := h
    rw [hr.len, List.take_length] at hD
    exact fin D H' nD hD kp
/-- [f(x) for x in l], l a list -/
theorem lcMapL {α β : Type} {K : PySem.W.Frag} {tv : TE} {j : Nat} {te : TE} {σ : L2.St} {H : Hp} {Q : VK} {a : Addr} {us : List V} {gs : List α} {R : Hp → V → α → Prop} (mono : ∀ H H' v x, Tp H H' → R H v x → R H' v x) (f : α → β) (put : β → V) (hv : ∀ R : VK, R (.ref a) H → tv σ H R) (ha : SqL K H a us) (hr : Rw (R H) us gs) (hl : gs.length ≤ 1000) (hj : j < σ.length)
    (elt : ∀ v x H' (Q' : VK), x ∈ gs → R H' v x → Kp [] H H' → (∀ H2, Kp [] H' H2 → Q' (put (f x)) H2) → te ((wipe σ [j]).set j (some v)) H' Q')
    (fin : ∀ D H', H D = none → H' D = some (.lst (gs.map fun x => put (f x))) → Kp [] H H' → Q (.ref D) H') :
    tLc (iList K tv) (gName j) tYes te [j] σ H Q := by
  unfold tLc iList
  refine hv _ ⟨a, rfl, ⟨_, ha⟩, fun D nD => ?_⟩
  refine lc_list (xs := us) (fun i H' => H' D = some (.lst ((gs.take i).map fun x => put (f x))) ∧ Kp [] H H') ⟨upd_same, Kp.new nD⟩ (fun i H' _ h => h.2.ls not0 ha) (fun i x H' hx h => ?_) fun H' h => ?_
  · obtain ⟨g, eg, hg⟩ := hr.get hx
    obtain ⟨hD, kp⟩ := h
    refine ⟨by simp [wipe], ?_⟩
    simp only [tYes, if_true]
    refine elt x g H' _ (List.mem_of_getElem? eg) (mono _ _ _ _ kp.tps hg) kp fun H2 k2 => ?_
    refine ⟨_, k2 _ _ not0 hD, ?_, ?_, (kp.trans k2).wr nD⟩
    · rw [List.length_map, List.length_take]; exact smallL (by omega)
    · rw [upd_same, take_snoc eg, List.map_append]; rfl
  · obtain ⟨hD, kp⟩ := h
    rw [hr.len, List.take_length] at hD
    exact fin D H' nD hD kp
/-- [f(x) for x in t], t a list; the results related -/
theorem lcRelL {α β : Type} {K : PySem.W.Frag} {tv : TE} {j : Nat} {te : TE} {σ : L2.St} {H : Hp} {Q : VK} {a : Addr} {us : List V} {gs : List α} {R : Hp → V → α → Prop} {R2 : Hp → V → β → Prop} (mono : ∀ H H' v x, Tp H H' → R H v x → R H' v x) (mono2 : ∀ H H' v x, Tp H H' → R2 H v x → R2 H' v x) (f : α → β) (hv : ∀ R : VK, R (.ref a) H → tv σ H R) (ha : SqL K H a us) (hr : Rw (R H) us gs) (hl : gs.length ≤ 1000) (hj : j < σ.length)
    (elt : ∀ v x H' (Q' : VK), x ∈ gs → R H' v x → Kp [] H H' → (∀ v' H2, R2 H2 v' (f x) → Kp [] H' H2 → Q' v' H2) → te ((wipe σ [j]).set j (some v)) H' Q')
    (fin : ∀ D ws H', H D = none → H' D = some (.lst ws) → Rw (R2 H') ws (gs.map f) → Kp [] H H' → Q (.ref D) H') :
    tLc (iList K tv) (gName j) tYes te [j] σ H Q := by
  unfold tLc iList
  refine hv _ ⟨a, rfl, ⟨_, ha⟩, fun D nD => ?_⟩
  refine lc_list (xs := us) (fun i H' => ∃ ws, H' D = some (.lst ws) ∧ Rw (R2 H') ws ((gs.take i).map f) ∧ Kp [] H H') ⟨[], upd_same, .nil, Kp.new nD⟩ (fun i H' _ h => by obtain ⟨_, _, _, k⟩ := h; exact k.ls not0 ha) (fun i x H' hx h => ?_) fun H' h => ?_
  · obtain ⟨g, eg, hg⟩ := hr.get hx
    obtain ⟨ws, hD, hw, kp⟩ := h
    refine ⟨by simp [wipe], ?_⟩
    simp only [tYes, if_true]
    refine elt x g H' _ (List.mem_of_getElem? eg) (mono _ _ _ _ kp.tps hg) kp fun v' H2 h2 k2 => ?_
    have hD2 := k2 _ _ not0 hD
    refine ⟨_, hD2, ?_, ws ++ [v'], upd_same, ?_, (kp.trans k2).wr nD⟩
    · rw [hw.len, List.length_map, List.length_take]; exact smallL (by omega)
    · rw [take_snoc eg, List.map_append]
      exact (hw.mono fun u g r => mono2 _ _ _ _ (k2.tps.putL hD2) r).snoc (mono2 _ _ _ _ ((Tp.refl H2).putL hD2) h2)
  · obtain ⟨ws, hD, hw, kp⟩ := h
    rw [hr.len, List.take_length] at hw
    exact fin D ws H' nD hD hw kp
theorem lc_src {K : PySem.W.Frag} {tv : TE} {g : TG} {tt : TT} {te : TE} {vs : List Nat} {σ : L2.St} {H : Hp} {Q : VK} (h : tv σ H fun v H1 => tLc (iList K (tC v)) g tt te vs σ H1 Q) : tLc (iList K tv) g tt te vs σ H Q := h
theorem lc_srcT {K : PySem.W.Frag} {tv : TE} {g : TG} {tt : TT} {te : TE} {vs : List Nat} {σ : L2.St} {H : Hp} {Q : VK} (h : tv σ H fun v H1 => tLc (iTup K (tC v)) g tt te vs σ H1 Q) : tLc (iTup K tv) g tt te vs σ H Q := h
def rTupOf (K : PySem.W.Frag) : List V → Hp → VK → Prop := fun xs H Q => ∃ p ys, xs = [V.ref p] ∧ ((SqL K H p ys ∧ ∀ l, H l = none → Q (.ref l) (upd H l (.tup ys))) ∨ (SqT K H p ys ∧ Q (.ref p) H))
theorem TI.make {H : Hp} {s : Addr} {xs : List Int} : TI (upd H s (.tup (xs.map V.int))) (.ref s) xs := ⟨s, rfl, upd_same⟩
/-- [k for k in range(m) if b(k)] -/
theorem lcRgFilt {ta : TA} {j : Nat} {tt : TT} {te : TE} {σ : L2.St} {H : Hp} {Q : VK} (m : Nat) (hm : m ≤ 1000) (b : Int → Bool) (hj : j < σ.length) (ht : ∀ R : List V → Hp → Prop, R [.int (m : Nat)] H → ta σ H R)
    (test : ∀ (i : Nat) H' (R : Bool → Hp → Prop), i < m → Kp [] H H' → (∀ H2, Kp [] H' H2 → R (b i) H2) → tt ((wipe σ [j]).set j (some (.int (i : Nat)))) H' R)
    (elt : ∀ (i : Nat) H' (R : VK), R (.int (i : Nat)) H' → te ((wipe σ [j]).set j (some (.int (i : Nat)))) H' R)
    (fin : ∀ D H', H D = none → H' D = some (.lst ((((List.range m).map fun i => ((i : Nat) : Int)).filter b).map V.int)) → Kp [] H H' → Q (.ref D) H') :
    tLc (iRng1 ta) (gName j) tt te [j] σ H Q :=
  lcRgN m (by omega) (fun o i H' => H' o = some (.lst ((((List.range i).map fun i => ((i : Nat) : Int)).filter b).map V.int)) ∧ Kp [] H H') ht (fun o no => ⟨upd_same, Kp.new no⟩) (fun o i H' no hi ⟨hD, kp⟩ => by
    refine ⟨by simp [wipe], ?_⟩
    refine test i H' _ hi kp fun H2 k2 => ?_
    have hD2 := k2 _ _ not0 hD
    cases hb : b i with
    | true =>
      rw [if_pos rfl]
      refine elt i H2 _ ⟨_, hD2, ?_, ?_, (kp.trans k2).wr no⟩
      · rw [List.length_map]
        have := List.length_filter_le b ((List.range i).map fun i => ((i : Nat) : Int))
        rw [List.length_map, List.length_range] at this
        exact smallL (by omega)
      · rw [upd_same, List.range_succ, List.map_append, List.filter_append]
        simp [hb]
    | false =>
      rw [if_neg (by simp)]
      refine ⟨?_, kp.trans k2⟩
      rw [List.range_succ, List.map_append, List.filter_append]
      simpa [hb] using hD2) fun o H' no ⟨hD, kp⟩ => fin o H' no hD kp
theorem forT_src {K : PySem.W.Frag} {te : TE} {g : TG} {tb : TS} {D : Ends} {σ : L2.St} {H : Hp} (h : te σ H fun v H1 => tFor (iTup K (tC v)) g tb D σ H1) : tFor (iTup K te) g tb D σ H := h
theorem forTC {K : PySem.W.Frag} {g : TG} {tb : TS} {D : Ends} {σ : L2.St} {H : Hp} {a : Addr} {xs : List V} (Pv : Nat → L2.St → Hp → Prop) (hS : SqT K H a xs) (h0 : Pv 0 σ H) (hl : ∀ j σ H, j ≤ xs.length → Pv j σ H → SqT K H a xs)
    (hs : ∀ j x σ H, xs[j]? = some x → Pv j σ H → g x σ H fun σ2 H2 => tb { D with nx := Pv (j + 1), ct := Pv (j + 1), bk := D.nx } σ2 H2) (hd : ∀ σ H, Pv xs.length σ H → D.nx σ H) : tFor (iTup K (tC (.ref a))) g tb D σ H :=
  ⟨a, rfl, ⟨xs, hS⟩, for_tup Pv h0 hl hs hd⟩
theorem forN2 {ta : TA} {g : TG} {tb : TS} {D : Ends} {σ : L2.St} {H : Hp} (lo m : Nat) (hlo : lo ≤ 1000) (hm : m ≤ 100000) (Pv : Nat → L2.St → Hp → Prop) (ht : ∀ R : List V → Hp → Prop, (∀ H1, Kp [] H H1 → R [.int (lo : Nat), .int (m : Nat)] H1) → ta σ H R) (h0 : ∀ H1, Kp [] H H1 → Pv 0 σ H1)
    (step : ∀ j σ H, lo + j < m → Pv j σ H → g (.int ((lo + j : Nat) : Int)) σ H fun σ2 H2 => tb { D with nx := Pv (j + 1), ct := Pv (j + 1), bk := D.nx } σ2 H2) (fin : ∀ σ H, Pv (m - lo) σ H → D.nx σ H) : tFor (iRng2 ta) g tb D σ H :=
  ht _ fun H1 k1 => ⟨(lo : Nat), (m : Nat), rfl, ⟨by omega, by omega, by omega, by omega⟩, for_range (lo := (lo : Nat)) (n := ((m : Int) - (lo : Nat)).toNat) Pv (h0 H1 k1) (fun j σ H hj p => by
    have e : ((lo : Nat) : Int) + (j : Nat) = ((lo + j : Nat) : Int) := by omega
    rw [e]
    exact step j σ H (by omega) p) fun σ H p => fin σ H (by
      have e : ((m : Int) - (lo : Nat)).toNat = m - lo := by omega
      rw [e] at p; exact p)⟩
/-- [e for k in range(m)], of each item a fact -/
theorem lcRgE {α : Type} {ta : TA} {j : Nat} {te : TE} {σ : L2.St} {H : Hp} {Q : VK} (m : Nat) (hm : m ≤ 100000) (R : Hp → V → α → Prop) (G : α → Prop) (mono : ∀ H H' v x, Tp H H' → R H v x → R H' v x) (hj : j < σ.length) (ht : ∀ R : List V → Hp → Prop, R [.int (m : Nat)] H → ta σ H R)
    (body : ∀ (i : Nat) H' (Q' : VK), i < m → Kp [] H H' → (∀ v g H2, R H2 v g → G g → Kp [] H' H2 → Q' v H2) → te ((wipe σ [j]).set j (some (.int (i : Nat)))) H' Q')
    (fin : ∀ o us gs H', H o = none → H' o = some (.lst us) → Rw (R H') us gs → gs.length = m → (∀ g ∈ gs, G g) → Kp [] H H' → Q (.ref o) H') : tLc (iRng1 ta) (gName j) tYes te [j] σ H Q :=
  lcRgN m hm (fun o i H' => ∃ us gs, H' o = some (.lst us) ∧ Rw (R H') us gs ∧ gs.length = i ∧ (∀ g ∈ gs, G g) ∧ Kp [] H H') ht (fun o no => ⟨[], [], upd_same, .nil, rfl, (fun g h => nomatch h), Kp.new no⟩) (fun o i H' no hi ⟨us, gs, ho, hr, gl, hg, k⟩ => by
    refine ⟨by simp [wipe], ?_⟩
    simp only [tYes, if_true]
    refine body i H' _ hi k fun v g H2 hv gg k2 => ?_
    have ho2 := k2 _ _ not0 ho
    refine ⟨us, ho2, smallL (by have := hr.len; omega), us ++ [v], gs ++ [g], upd_same, (hr.mono fun u g r => mono _ _ _ _ (k2.tps.putL ho2) r).snoc (mono _ _ _ _ ((Tp.refl H2).putL ho2) hv), by simp [gl], fun x hx => ?_, (k.trans k2).wr no⟩
    rcases List.mem_append.mp hx with hx | hx
    · exact hg x hx
    · rw [List.mem_singleton.mp hx]; exact gg) fun o H' no ⟨us, gs, ho, hr, gl, hg, k⟩ => fin o us gs H' no ho hr gl hg k
/-- a walk of a tuple that stands -/
theorem it_tup {K : PySem.W.Frag} {a : Addr} {xs : List V} {W0 : Hp → Prop} (Pv : Nat → Hp → Prop) {H : Hp} (h0 : Pv 0 H) {Nx : Hp → Prop} {Body : V → Hp → (Hp → Prop) → Prop} (hl : ∀ i H', Pv i H' → SqT K H' a xs)
    (step : ∀ i x H', xs[i]? = some x → Pv i H' → Body x H' (Pv (i + 1))) (fin : ∀ H', Pv xs.length H' → Nx H') : ∃ W : Nat → Nat → Hp → Prop, (∃ k, W 0 k H) ∧ ∀ i k H, W i k H →
  ((Itt K a).stop i H ∧ Nx H) ∨ ((Itt K a).go i H ∧ ∃ N2 : Hp → Prop, (∀ H', N2 H' → ∃ m', m' < k ∧ W (i + 1) m' H') ∧ ∀ x H', (Itt K a).yld i H x H' → Body x H' N2) := by
  refine ⟨fun i k H => k = xs.length - i ∧ i ≤ xs.length ∧ Pv i H, ⟨xs.length, rfl, Nat.zero_le _, h0⟩, ?_⟩
  rintro i k H ⟨rfl, hi, p⟩
  have q := hl i H p
  by_cases lt : i < xs.length
  · refine .inr ⟨⟨xs, xs[i], q, by simp [lt]⟩, Pv (i + 1), fun H' p' => ⟨xs.length - (i + 1), by omega, rfl, lt, p'⟩, fun x H' y => ?_⟩
    obtain ⟨e, y⟩ := y
    subst e
    exact step i x _ (y xs q) p
  · have e : i = xs.length := by omega
    subst e
    exact .inl ⟨⟨xs, q, Nat.le_refl _⟩, fin H p⟩
theorem flat_take {gs : List (List Int)} {i : Nat} {g : List Int} (e : gs[i]? = some g) : (gs.take (i + 1)).flatten = (gs.take i).flatten ++ g := by
  rw [take_snoc e, List.flatten_append, List.flatten_singleton]
theorem flat_le (gs : List (List Int)) (i : Nat) : (gs.take i).flatten.length ≤ gs.flatten.length := by
  have e : (gs.take i ++ gs.drop i).flatten.length = gs.flatten.length := by rw [List.take_append_drop]
  rw [List.flatten_append, List.length_append] at e
  omega
/-- [x for g in t for x in g], t a tuple of tuples of ints -/
theorem lcFlat {K : PySem.W.Frag} {tv : TE} {p q : Nat} {σ : L2.St} {H : Hp} {Q : VK} {a : Addr} {us : List V} {gs : List (List Int)} (hv : ∀ R : VK, R (.ref a) H → tv σ H R) (ha : SqT K H a us) (hr : Rw (TI H) us gs) (hl : gs.flatten.length ≤ 1000) (hp : p < σ.length) (hq : q < σ.length) (pq : p ≠ q)
    (fin : ∀ D H', H D = none → H' D = some (.lst (gs.flatten.map V.int)) → Kp [] H H' → Q (.ref D) H') :
    tLc2 (iTup K tv) (gName p) tYes (iTup K (tVar p)) (gName q) tYes (tVar q) [p, q] [q] σ H Q := by
  unfold tLc2 iTup
  refine hv _ ⟨a, rfl, ⟨_, ha⟩, fun D nD => ?_⟩
  have w1 : ∀ x, wipe ((wipe σ [p, q]).set p (some x)) [p, q] = wipe σ [p, q] := fun x => by
    apply List.ext_getElem?
    intro n
    simp only [wipe, List.getElem?_set, List.length_set]
    by_cases h1 : p = n <;> by_cases h2 : q = n <;> simp [h1, h2]
  refine it_tup (K := K) (a := a) (xs := us) (W0 := fun _ => True) (Body := fun x H' N => gName p x (wipe σ [p, q]) H' fun σ2 H2 => wipe σ2 [p, q] = wipe σ [p, q] ∧ tYes σ2 H2 fun b H3 => if b = true then tLcIn (iTup K (tVar p)) (gName q) tYes (tVar q) [q] D σ2 H3 N else N H3)
    (fun i H' => H' D = some (.lst ((gs.take i).flatten.map V.int)) ∧ Kp [] H H') ⟨upd_same, Kp.new nD⟩ (fun i H' h => h.2.tp not0 ha) (fun i x H' hx h => ?_) fun H' h => ?_
  · obtain ⟨g, eg, b, rfl, hb⟩ := hr.get hx
    obtain ⟨hD, kp⟩ := h
    refine ⟨w1 _, ?_⟩
    simp only [tYes, if_true]
    have hb' := kp _ _ not0 hb
    refine ⟨.ref b, ?_, b, rfl, ⟨_, sq_t hb'⟩, ?_⟩
    · show ((wipe σ [p, q]).set p (some (.ref b)))[p]? = _
      rw [List.getElem?_set_self (by rw [wipe_length]; exact hp)]
    have fl := flat_le gs (i + 1)
    rw [flat_take eg, List.length_append] at fl
    refine it_tup (K := K) (a := b) (xs := g.map V.int) (W0 := fun _ => True) (Body := fun x H' N => gName q x (wipe ((wipe σ [p, q]).set p (some (.ref b))) [q]) H' fun σ2 H2 => wipe σ2 [q] = wipe ((wipe σ [p, q]).set p (some (.ref b))) [q] ∧ tYes σ2 H2 fun b H3 => if b = true then tVar q σ2 H3 fun y H4 => ∃ acc, H4 D = some (.lst acc) ∧ acc.length < sizeLine ∧ N (upd H4 D (.lst (acc ++ [y]))) else N H3)
      (fun j H2 => H2 D = some (.lst (((gs.take i).flatten ++ g.take j).map V.int)) ∧ Kp [] H H2) ⟨by rw [List.take_zero, List.append_nil]; exact hD, kp⟩ (fun j H2 h => sq_t (h.2 _ _ not0 (by exact hb))) (fun j x H2 hx2 h => ?_) fun H2 h => ?_
    · obtain ⟨k, ek, rfl⟩ := map_get hx2
      obtain ⟨hD2, kp2⟩ := h
      refine ⟨by simp [wipe], ?_⟩
      simp only [if_true]
      refine ⟨.int k, ?_, _, hD2, ?_, ?_, kp2.wr nD⟩
      · rw [List.getElem?_set_self (by rw [wipe_length, List.length_set, wipe_length]; exact hq)]
      · rw [List.length_map, List.length_append, List.length_take]; exact smallL (by omega)
      · rw [upd_same, take_snoc ek]; simp
    · obtain ⟨hD2, kp2⟩ := h
      rw [List.length_map, List.take_length] at hD2
      exact ⟨by rw [flat_take eg]; exact hD2, kp2⟩
  · obtain ⟨hD, kp⟩ := h
    rw [hr.len, List.take_length] at hD
    exact fin D H' nD hD kp
/-- what stands of an own error with one field, and its __init__ -/
structure Er1 (P : Program) (w : World) (K : PySem.W.Frag) (mg : Str → Option Value) (base : Heap) (nm fld : Str) (C f : Addr) (fd : FuncData) (ps : List Str) (Pf : V → Prop) : Prop where
  k : mg nm = some (.ref C)
  ox : OexC K C
  ic : PySem.W.findIn K (.ref C) "__init__" = some (some (.ref f))
  ti : PySem.W.typeIn K (.ref f) = some (.type "function")
  b : Binds K fd ps []
  G : FnOk P w K mg base (L2.CX P w) 1 f fd ps (spErr1 C fld Pf)
theorem find_first {α : Type} {f : α → Bool} {l : List α} {i : Nat} {x : α} (e : l[i]? = some x) (hx : f x = true) (h : ∀ j y, j < i → l[j]? = some y → f y = false) : l.find? f = some x := by
  induction l generalizing i with
  | nil => cases e
  | cons a r ih =>
    cases i with
    | zero => cases e; rw [List.find?_cons, hx]
    | succ i =>
      rw [List.find?_cons, h 0 a (by omega) rfl]
      exact ih e fun j y hj ey => h (j + 1) y (by omega) ey
end My

set_option Elab.async false
set_option linter.all false
set_option maxRecDepth 100000
set_option maxHeartbeats 4000000
/-! ### list comprehensions over lists and tuples of related items, with a test -/
namespace My
open PySem L2
def WSrc (K : PySem.W.Frag) (wi : L2.TI) (σ : L2.St) (H : Hp) (a : Addr) (us : List V) : Prop := (SqL K H a us ∧ ∀ R, R (Itl K a) H → wi σ H R) ∨ (SqT K H a us ∧ ∀ R, R (Itt K a) H → wi σ H R)
section
variable {K : PySem.W.Frag} {tv : TE} {σ : L2.St} {H : Hp} {a : Addr} {us : List V}
theorem src_tup (hv : ∀ R : VK, R (.ref a) H → tv σ H R) (ha : SqT K H a us) : WSrc K (iTup K tv) σ H a us := .inr ⟨ha, fun R h => hv _ ⟨a, rfl, ⟨_, ha⟩, h⟩⟩
theorem src_list (hv : ∀ R : VK, R (.ref a) H → tv σ H R) (ha : SqL K H a us) : WSrc K (iList K tv) σ H a us := .inl ⟨ha, fun R h => hv _ ⟨a, rfl, ⟨_, ha⟩, h⟩⟩
theorem src_seq (hv : ∀ R : VK, R (.ref a) H → tv σ H R) (ha : SqAny K H a us) : WSrc K (iSeq K tv) σ H a us := by
  rcases ha with h | h
  · exact .inl ⟨h, fun R q => hv _ ⟨a, rfl, .inl ⟨⟨_, h⟩, q⟩⟩⟩
  · exact .inr ⟨h, fun R q => hv _ ⟨a, rfl, .inr ⟨⟨_, h⟩, q⟩⟩⟩
end
/-- [f(x) for x in s if b(x)], its items related; the target and the test as they are -/
theorem lcG {α β : Type} {K : PySem.W.Frag} {wi : L2.TI} {g : TG} {tt : TT} {te : TE} {vs : List Nat} {σ : L2.St} {H : Hp} {Q : VK} {a : Addr} {us : List V} {gs : List α} {R : Hp → V → α → Prop} {R2 : Hp → V → β → Prop} (mono : ∀ H H' v x, Tp H H' → R H v x → R H' v x) (mono2 : ∀ H H' v x, Tp H H' → R2 H v x → R2 H' v x) (b : α → Bool) (f : α → β)
    (hw : WSrc K wi σ H a us) (hr : Rw (R H) us gs) (hl : gs.length ≤ 1000)
    (turn : ∀ v x H' (N : V → Hp → Prop) (N0 : Hp → Prop), x ∈ gs → R H' v x → Kp [] H H' → (b x = true → ∀ u H2, R2 H2 u (f x) → Kp [] H' H2 → N u H2) → (b x = false → ∀ H2, Kp [] H' H2 → N0 H2) →
      g v (wipe σ vs) H' fun σ2 H2 => wipe σ2 vs = wipe σ vs ∧ tt σ2 H2 fun c H3 => if c = true then te σ2 H3 N else N0 H3)
    (fin : ∀ D us' H', H D = none → H' D = some (.lst us') → Rw (R2 H') us' ((gs.filter b).map f) → Kp [] H H' → Q (.ref D) H') : tLc wi g tt te vs σ H Q := by
  have st : ∀ D, H D = none → ∀ i v H', us[i]? = some v → (∃ us', H' D = some (.lst us') ∧ Rw (R2 H') us' (((gs.take i).filter b).map f) ∧ Kp [] H H') →
      g v (wipe σ vs) H' fun σ2 H2 => wipe σ2 vs = wipe σ vs ∧ tt σ2 H2 fun c H3 => if c = true then te σ2 H3 fun y H4 => ∃ acc, H4 D = some (.lst acc) ∧ acc.length < sizeLine ∧ (fun i H' => ∃ us', H' D = some (.lst us') ∧ Rw (R2 H') us' (((gs.take i).filter b).map f) ∧ Kp [] H H') (i + 1) (upd H4 D (.lst (acc ++ [y])))
        else (fun i H' => ∃ us', H' D = some (.lst us') ∧ Rw (R2 H') us' (((gs.take i).filter b).map f) ∧ Kp [] H H') (i + 1) H3 := by
    rintro D nD i v H' hx ⟨us', hD, hr', kp⟩
    obtain ⟨x, ex, hg⟩ := hr.get hx
    refine turn v x H' _ _ (List.mem_of_getElem? ex) (mono _ _ _ _ kp.tps hg) kp (fun hb u H2 hu k2 => ?_) fun hb H2 k2 => ?_
    · have hD2 := k2 _ _ not0 hD
      refine ⟨us', hD2, ?_, us' ++ [u], upd_same, ?_, (kp.trans k2).wr nD⟩
      · rw [hr'.len, List.length_map]
        have := List.length_filter_le b (gs.take i)
        rw [List.length_take] at this
        exact smallL (by omega)
      · have tp : Tp H2 (upd H2 D (.lst (us' ++ [u]))) := (Tp.refl _).putL hD2
        rw [take_snoc ex, List.filter_append, List.map_append]
        simp only [List.filter_cons, hb, List.filter_nil, if_true, List.map_cons, List.map_nil]
        exact (hr'.mono fun _ _ r => mono2 _ _ _ _ (k2.tps.trans tp) r).snoc (mono2 _ _ _ _ tp hu)
    · refine ⟨us', k2 _ _ not0 hD, ?_, kp.trans k2⟩
      rw [take_snoc ex, List.filter_append]
      simp only [List.filter_cons, hb, List.filter_nil, if_false, Bool.false_eq_true, List.append_nil]
      exact hr'.mono fun _ _ r => mono2 _ _ _ _ k2.tps r
  have hlen := hr.len
  rcases hw with ⟨ha, hw⟩ | ⟨ha, hw⟩
  · refine hw _ fun D nD => ?_
    refine lc_list (xs := us) (fun i H' => ∃ us', H' D = some (.lst us') ∧ Rw (R2 H') us' (((gs.take i).filter b).map f) ∧ Kp [] H H') ⟨[], upd_same, .nil, Kp.new nD⟩ (fun i H' _ h => by obtain ⟨_, _, _, k⟩ := h; exact k.ls not0 ha) (fun i x H' hx h => st D nD i x H' hx h) fun H' h => ?_
    obtain ⟨us', hD, hr', kp⟩ := h
    rw [hlen, List.take_length] at hr'
    exact fin D us' H' nD hD hr' kp
  · refine hw _ fun D nD => ?_
    refine lc_tup (xs := us) (fun i H' => ∃ us', H' D = some (.lst us') ∧ Rw (R2 H') us' (((gs.take i).filter b).map f) ∧ Kp [] H H') ⟨[], upd_same, .nil, Kp.new nD⟩ (fun i H' _ h => by obtain ⟨_, _, _, k⟩ := h; exact k.tp not0 ha) (fun i x H' hx h => st D nD i x H' hx h) fun H' h => ?_
    obtain ⟨us', hD, hr', kp⟩ := h
    rw [hlen, List.take_length] at hr'
    exact fin D us' H' nD hD hr' kp
theorem it_listB {K : PySem.W.Frag} {a : Addr} {xs : List V} (Pv : Nat → Hp → Prop) {H : Hp} (h0 : Pv 0 H) {Nx : Hp → Prop} {Body : V → Hp → (Hp → Prop) → Prop} (hl : ∀ i H', Pv i H' → SqL K H' a xs)
    (step : ∀ i x H', xs[i]? = some x → Pv i H' → Body x H' (Pv (i + 1))) (fin : ∀ H', Pv xs.length H' → Nx H') : ∃ W : Nat → Nat → Hp → Prop, (∃ k, W 0 k H) ∧ ∀ i k H, W i k H →
      ((Itl K a).stop i H ∧ Nx H) ∨ ((Itl K a).go i H ∧ ∃ N2 : Hp → Prop, (∀ H', N2 H' → ∃ m', m' < k ∧ W (i + 1) m' H') ∧ ∀ x H', (Itl K a).yld i H x H' → Body x H' N2) := by
  refine ⟨fun i m H => m = xs.length - i ∧ i ≤ xs.length ∧ Pv i H, ⟨xs.length, by simp, Nat.zero_le _, h0⟩, ?_⟩
  rintro i m H ⟨rfl, hi, p⟩
  have q := hl i H p
  by_cases hlt : i < xs.length
  · refine .inr ⟨⟨xs, xs[i], q, by simp [hlt]⟩, Pv (i + 1), fun H' p' => ⟨xs.length - (i + 1), by omega, rfl, hlt, p'⟩, fun x H' y => ?_⟩
    obtain ⟨e, y⟩ := y
    subst e
    exact step i x _ (y xs q) p
  · have e : i = xs.length := by omega
    subst e
    exact .inl ⟨⟨xs, q, Nat.le_refl _⟩, fin H p⟩
theorem it_tupB {K : PySem.W.Frag} {a : Addr} {xs : List V} (Pv : Nat → Hp → Prop) {H : Hp} (h0 : Pv 0 H) {Nx : Hp → Prop} {Body : V → Hp → (Hp → Prop) → Prop} (hl : ∀ i H', Pv i H' → SqT K H' a xs)
    (step : ∀ i x H', xs[i]? = some x → Pv i H' → Body x H' (Pv (i + 1))) (fin : ∀ H', Pv xs.length H' → Nx H') : ∃ W : Nat → Nat → Hp → Prop, (∃ k, W 0 k H) ∧ ∀ i k H, W i k H →
      ((Itt K a).stop i H ∧ Nx H) ∨ ((Itt K a).go i H ∧ ∃ N2 : Hp → Prop, (∀ H', N2 H' → ∃ m', m' < k ∧ W (i + 1) m' H') ∧ ∀ x H', (Itt K a).yld i H x H' → Body x H' N2) := by
  refine ⟨fun i m H => m = xs.length - i ∧ i ≤ xs.length ∧ Pv i H, ⟨xs.length, by simp, Nat.zero_le _, h0⟩, ?_⟩
  rintro i m H ⟨rfl, hi, p⟩
  have q := hl i H p
  by_cases hlt : i < xs.length
  · refine .inr ⟨⟨xs, xs[i], q, by simp [hlt]⟩, Pv (i + 1), fun H' p' => ⟨xs.length - (i + 1), by omega, rfl, hlt, p'⟩, fun x H' y => ?_⟩
    obtain ⟨e, y⟩ := y
    subst e
    exact step i x _ (y xs q) p
  · have e : i = xs.length := by omega
    subst e
    exact .inl ⟨⟨xs, q, Nat.le_refl _⟩, fin H p⟩
/-- a source that stands while things are made, behind H2 -/
def WSrc2 (K : PySem.W.Frag) (wi : L2.TI) (σ : L2.St) (H H2 : Hp) (a : Addr) (us : List V) : Prop := ((∀ H3, Kp [] H H3 → Tp H2 H3 → SqL K H3 a us) ∧ ∀ R, R (Itl K a) H2 → wi σ H2 R) ∨ ((∀ H3, Kp [] H H3 → Tp H2 H3 → SqT K H3 a us) ∧ ∀ R, R (Itt K a) H2 → wi σ H2 R)
theorem src2_seq {K : PySem.W.Frag} {tv : TE} {σ : L2.St} {H H2 : Hp} {a : Addr} {us : List V} (k : Kp [] H H2) (hv : ∀ R : VK, R (.ref a) H2 → tv σ H2 R) (ha : SqAny K H a us) : WSrc2 K (iSeq K tv) σ H H2 a us := by
  rcases ha with h | h
  · exact .inl ⟨fun H3 k3 _ => k3.ls not0 h, fun R q => hv _ ⟨a, rfl, .inl ⟨⟨_, k.ls not0 h⟩, q⟩⟩⟩
  · exact .inr ⟨fun H3 k3 _ => k3.tp not0 h, fun R q => hv _ ⟨a, rfl, .inr ⟨⟨_, k.tp not0 h⟩, q⟩⟩⟩
/-- [f(x, y) for x in s for y in t(x) if b(x, y)] -/
theorem lc2G {α β γ : Type} {K : PySem.W.Frag} {wi1 wi2 : L2.TI} {g1 g2 : TG} {tt2 : TT} {te : TE} {vs vs2 : List Nat} {σ : L2.St} {H : Hp} {Q : VK} {a : Addr} {us : List V} {gs : List α} {R : Hp → V → α → Prop} {S : Hp → V → γ → Prop} {R2 : Hp → V → β → Prop} (mono : ∀ H H' v x, Tp H H' → R H v x → R H' v x) (monoS : ∀ H H' v x, Tp H H' → S H v x → S H' v x) (mono2 : ∀ H H' v x, Tp H H' → R2 H v x → R2 H' v x)
    (ys : α → List γ) (b : α → γ → Bool) (f : α → γ → β)
    (hw : WSrc K wi1 σ H a us) (hr : Rw (R H) us gs) (hl : (gs.flatMap ys).length ≤ 1000)
    (outer : ∀ v x H' (M : L2.St → Hp → Prop), x ∈ gs → R H' v x → Kp [] H H' → (∀ σ2 H2, wipe σ2 vs = wipe σ vs → Kp [] H' H2 → (∃ a2 us2, WSrc2 K wi2 σ2 H H2 a2 us2 ∧ Rw (S H2) us2 (ys x)) →
      (∀ u y H3 (N : V → Hp → Prop) (N0 : Hp → Prop), y ∈ ys x → S H3 u y → Kp [] H H3 → Tp H2 H3 → (b x y = true → ∀ w H4, R2 H4 w (f x y) → Kp [] H3 H4 → N w H4) → (b x y = false → ∀ H4, Kp [] H3 H4 → N0 H4) →
        g2 u (wipe σ2 vs2) H3 fun σ3 H4 => wipe σ3 vs2 = wipe σ2 vs2 ∧ tt2 σ3 H4 fun c H5 => if c = true then te σ3 H5 N else N0 H5) → M σ2 H2) → g1 v (wipe σ vs) H' M)
    (fin : ∀ D us' H', H D = none → H' D = some (.lst us') → Rw (R2 H') us' (gs.flatMap fun x => ((ys x).filter (b x)).map (f x)) → Kp [] H H' → Q (.ref D) H') : tLc2 wi1 g1 tYes wi2 g2 tt2 te vs vs2 σ H Q := by
  generalize hFl : (fun i : Nat => (gs.take i).flatMap fun x => ((ys x).filter (b x)).map (f x)) = Fl
  have Flen : ∀ i, (Fl i).length ≤ ((gs.take i).flatMap ys).length := fun i => by
    rw [← hFl]
    show ((gs.take i).flatMap _).length ≤ _
    generalize gs.take i = l
    induction l with
    | nil => simp
    | cons x r ih =>
      rw [List.flatMap_cons, List.flatMap_cons, List.length_append, List.length_append, List.length_map]
      have := List.length_filter_le (b x) (ys x)
      omega
  have Tlen : ∀ i, ((gs.take i).flatMap ys).length ≤ (gs.flatMap ys).length := fun i => by
    conv => rhs; rw [← List.take_append_drop i gs, List.flatMap_append, List.length_append]
    omega
  have st : ∀ D, H D = none → ∀ i v H', us[i]? = some v → (∃ us', H' D = some (.lst us') ∧ Rw (R2 H') us' (Fl i) ∧ Kp [] H H') →
      g1 v (wipe σ vs) H' fun σ2 H2 => wipe σ2 vs = wipe σ vs ∧ tYes σ2 H2 fun c H3 => if c = true then tLcIn wi2 g2 tt2 te vs2 D σ2 H3 (fun H' => ∃ us', H' D = some (.lst us') ∧ Rw (R2 H') us' (Fl (i + 1)) ∧ Kp [] H H') else (fun H' => ∃ us', H' D = some (.lst us') ∧ Rw (R2 H') us' (Fl (i + 1)) ∧ Kp [] H H') H3 := by
    rintro D nD i v H' hx ⟨us', hD, hr', kp⟩
    obtain ⟨x, ex, hg⟩ := hr.get hx
    have eF : Fl (i + 1) = Fl i ++ ((ys x).filter (b x)).map (f x) := by
      rw [← hFl]
      show (gs.take (i + 1)).flatMap _ = _
      rw [take_snoc ex, List.flatMap_append]
      simp
    have lF : (Fl i).length + (ys x).length ≤ 1000 := by
      have h1 := Flen i
      have h2 : ((gs.take (i + 1)).flatMap ys).length = ((gs.take i).flatMap ys).length + (ys x).length := by
        rw [take_snoc ex, List.flatMap_append, List.length_append]
        simp
      have h3 := Tlen (i + 1)
      omega
    refine outer v x H' _ (List.mem_of_getElem? ex) (mono _ _ _ _ kp.tps hg) kp fun σ2 H2 hσ k2 ⟨a2, us2, hw2, hr2⟩ turn => ⟨hσ, ?_⟩
    simp only [tYes, if_true]
    have hP0 : ∃ us', H2 D = some (.lst us') ∧ Rw (R2 H2) us' (Fl i ++ (((ys x).take 0).filter (b x)).map (f x)) ∧ Kp [] H H2 ∧ Tp H2 H2 := ⟨us', k2 _ _ not0 hD, by
      rw [List.take_zero, List.filter_nil, List.map_nil, List.append_nil]
      exact hr'.mono fun _ _ r => mono2 _ _ _ _ k2.tps r, kp.trans k2, Tp.refl _⟩
    have hlen2 := hr2.len
    have inner : ∀ j u H3, us2[j]? = some u → (∃ us', H3 D = some (.lst us') ∧ Rw (R2 H3) us' (Fl i ++ (((ys x).take j).filter (b x)).map (f x)) ∧ Kp [] H H3 ∧ Tp H2 H3) →
        g2 u (wipe σ2 vs2) H3 fun σ3 H4 => wipe σ3 vs2 = wipe σ2 vs2 ∧ tt2 σ3 H4 fun c H5 => if c = true then te σ3 H5 fun y H6 => ∃ acc, H6 D = some (.lst acc) ∧ acc.length < sizeLine ∧ (fun H3 => ∃ us', H3 D = some (.lst us') ∧ Rw (R2 H3) us' (Fl i ++ (((ys x).take (j + 1)).filter (b x)).map (f x)) ∧ Kp [] H H3 ∧ Tp H2 H3) (upd H6 D (.lst (acc ++ [y])))
          else (fun H3 => ∃ us', H3 D = some (.lst us') ∧ Rw (R2 H3) us' (Fl i ++ (((ys x).take (j + 1)).filter (b x)).map (f x)) ∧ Kp [] H H3 ∧ Tp H2 H3) H5 := by
      rintro j u H3 hu ⟨us3, hD3, hr3, k3, t3⟩
      obtain ⟨y, ey, hy⟩ := hr2.get hu
      refine turn u y H3 _ _ (List.mem_of_getElem? ey) (monoS _ _ _ _ t3 hy) k3 t3 (fun hb w H4 hw4 k4 => ?_) fun hb H4 k4 => ?_
      · have hD4 := k4 _ _ not0 hD3
        have tp : Tp H4 (upd H4 D (.lst (us3 ++ [w]))) := (Tp.refl _).putL hD4
        refine ⟨us3, hD4, ?_, us3 ++ [w], upd_same, ?_, (k3.trans k4).wr nD, (t3.trans k4.tps).trans tp⟩
        · rw [hr3.len, List.length_append, List.length_map]
          have h1 := List.length_filter_le (b x) ((ys x).take j)
          rw [List.length_take] at h1
          exact smallL (by omega)
        · rw [take_snoc ey, List.filter_append, List.map_append, ← List.append_assoc]
          simp only [List.filter_cons, hb, List.filter_nil, if_true, List.map_cons, List.map_nil]
          exact (hr3.mono fun _ _ r => mono2 _ _ _ _ (k4.tps.trans tp) r).snoc (mono2 _ _ _ _ tp hw4)
      · refine ⟨us3, k4 _ _ not0 hD3, ?_, k3.trans k4, t3.trans k4.tps⟩
        rw [take_snoc ey, List.filter_append]
        simp only [List.filter_cons, hb, List.filter_nil, if_false, Bool.false_eq_true, List.append_nil]
        exact hr3.mono fun _ _ r => mono2 _ _ _ _ k4.tps r
    have ends : ∀ H3, (∃ us', H3 D = some (.lst us') ∧ Rw (R2 H3) us' (Fl i ++ (((ys x).take us2.length).filter (b x)).map (f x)) ∧ Kp [] H H3 ∧ Tp H2 H3) → ∃ us', H3 D = some (.lst us') ∧ Rw (R2 H3) us' (Fl (i + 1)) ∧ Kp [] H H3 := by
      rintro H3 ⟨us3, hD3, hr3, k3, _⟩
      rw [hlen2, List.take_length, ← eF] at hr3
      exact ⟨us3, hD3, hr3, k3⟩
    rcases hw2 with ⟨ha2, hw2⟩ | ⟨ha2, hw2⟩
    · exact hw2 _ (it_listB (xs := us2) (fun j H3 => ∃ us', H3 D = some (.lst us') ∧ Rw (R2 H3) us' (Fl i ++ (((ys x).take j).filter (b x)).map (f x)) ∧ Kp [] H H3 ∧ Tp H2 H3) hP0 (fun j H3 h => by obtain ⟨_, _, _, k, t⟩ := h; exact ha2 H3 k t) (fun j u H3 hu h => inner j u H3 hu h) ends)
    · exact hw2 _ (it_tupB (xs := us2) (fun j H3 => ∃ us', H3 D = some (.lst us') ∧ Rw (R2 H3) us' (Fl i ++ (((ys x).take j).filter (b x)).map (f x)) ∧ Kp [] H H3 ∧ Tp H2 H3) hP0 (fun j H3 h => by obtain ⟨_, _, _, k, t⟩ := h; exact ha2 H3 k t) (fun j u H3 hu h => inner j u H3 hu h) ends)
  have hlen := hr.len
  have begin0 : ∀ D, H D = none → ∃ us', (upd H D (.lst [])) D = some (.lst us') ∧ Rw (R2 (upd H D (.lst []))) us' (Fl 0) ∧ Kp [] H (upd H D (.lst [])) := fun D nD => ⟨[], upd_same, by rw [← hFl]; exact .nil, Kp.new nD⟩
  have over : ∀ D, H D = none → ∀ H', (∃ us', H' D = some (.lst us') ∧ Rw (R2 H') us' (Fl us.length) ∧ Kp [] H H') → Q (.ref D) H' := by
    rintro D nD H' ⟨us', hD, hr', k⟩
    rw [← hFl] at hr'
    have hr' : Rw (R2 H') us' ((gs.take us.length).flatMap fun x => ((ys x).filter (b x)).map (f x)) := hr'
    rw [hlen, List.take_length] at hr'
    exact fin D us' H' nD hD hr' k
  rcases hw with ⟨ha, hw⟩ | ⟨ha, hw⟩
  · exact hw _ fun D nD => it_listB (xs := us) (fun i H' => ∃ us', H' D = some (.lst us') ∧ Rw (R2 H') us' (Fl i) ∧ Kp [] H H') (begin0 D nD) (fun i H' h => by obtain ⟨_, _, _, k⟩ := h; exact k.ls not0 ha) (fun i v H' hx h => st D nD i v H' hx h) (over D nD)
  · exact hw _ fun D nD => it_tupB (xs := us) (fun i H' => ∃ us', H' D = some (.lst us') ∧ Rw (R2 H') us' (Fl i) ∧ Kp [] H H') (begin0 D nD) (fun i H' h => by obtain ⟨_, _, _, k⟩ := h; exact k.tp not0 ha) (fun i v H' hx h => st D nD i v H' hx h) (over D nD)
theorem lc2_src {K : PySem.W.Frag} {tv : TE} {g1 g2 : TG} {tt1 tt2 : TT} {wi2 : L2.TI} {te : TE} {vs vs2 : List Nat} {σ : L2.St} {H : Hp} {Q : VK} (h : tv σ H fun v H1 => tLc2 (iList K (tC v)) g1 tt1 wi2 g2 tt2 te vs vs2 σ H1 Q) : tLc2 (iList K tv) g1 tt1 wi2 g2 tt2 te vs vs2 σ H Q := h
end My

set_option Elab.async false
set_option linter.all false
set_option maxRecDepth 100000
set_option maxHeartbeats 4000000
namespace My
open PySem L2 NdefX
def top (i : Nat) : Stmt := PySem.Challenge.pw_coretower_k52_whole_parting_row.main.body.getD i (.Pass ⟨0, 0, 0, 0⟩)
def mtop (i j : Nat) : Stmt := match top i with
  | .ClassDef _ _ _ b _ _ _ _ _ _ _ => b.getD j (.Pass ⟨0, 0, 0, 0⟩)
  | _ => .Pass ⟨0, 0, 0, 0⟩
abbrev s_BadNumber_init : Stmt := mtop 3 0
theorem sc_BadNumber_init : NScope ["self", "number", "__class__"] ["self", "number"] ["__class__"] (defScope s_BadNumber_init) := nscope_by (by decide +kernel)
theorem ok_BadNumber_init {P : Program} {w : World} {K : PySem.W.Frag} {mg : Str → Option Value} {base : Heap} {CX : CXT} {f cc cda C : Addr} {fd : FuncData} (F : FunX K "__init__" "BadNumber.__init__" s_BadNumber_init f fd cc cda C) (T : ErrC K C) (G : CodeF K P cda) (hsup : mg "super" = none) (n1 : PySem.W.findIn K (.ref C) "number" = some none) {Pf : V → Prop} :
    FnOk P w K mg base CX 1 f fd ["self", "number"] (spErr1 C "number" Pf) := by
  have F0 := F
  obtain ⟨oc, od, kV, doc, pm, an, ct, osl, hfd, lk, hcd⟩ := F0.ex
  obtain ⟨cl, cld, csl, hcc⟩ := F0.cell
  refine F.ok sc_BadNumber_init (fun vs H Q E h => ?_) (fun A outer s H vs Q E hr h => ?_)
  · obtain ⟨a, v, rfl, _⟩ := h
    rfl
  · obtain ⟨a, v, rfl, hp, ha, q⟩ := h
    refine ⟨_, psat_cons (psat_sup T G lk (by rw [hfd]; rfl) hcc hsup rfl rfl rfl rfl rfl rfl rfl (pa_cons pe_str pa_nil) rfl rfl rfl rfl rfl) (pss_one (ps_ost (pv 0) (pv 1))), ?_⟩
    try simp (maxSteps := 1000000) only [tSeq, tIfS, tTest, tOp, tUn, tCB, tCons, tNil, tVar, tC, rI0, rI, rU, rEq, rNe, tRet, tRetN, tAsg, gName, gSub, tBM, tBM0, tNext, tB, tNot, tAnd, tOr, tIf, tCall, tDrop, tBreak, tCont, L2.start, tDGet, sDPut, tTup, tLst, tDNewK, tRevL, rCat, rAppend, rPop, rSetL, tAndV, tOrV, tNotV, tSl, tPart, tNoPart, tM1, gTup, gCons, gNil, cxK, cxnK, List.map_cons, List.map_nil, List.length_cons, List.length_nil, List.replicate, List.cons_append, List.nil_append, List.append_nil, List.set_cons_zero, List.set_cons_succ, List.getElem?_cons_zero, List.getElem?_cons_succ, Option.some.injEq, V.ref.injEq, V.int.injEq, V.str.injEq, V.bl.injEq, V.ty.injEq, exists_eq_left', exists_eq_left, exists_and_left, List.cons.injEq, and_true, true_and, sc_ii, sc_ss, sc_bb, sc_ni, sc_in, sc_is, sc_si, sc_nn, decide_true, decide_false, reduceCtorEq, Bool.false_eq_true, if_true, if_false, ite_true, ite_false, exists_const, eq_self, false_and, and_false, or_false, false_or, exists_false, Evl.rLenS, rSum, wipe, tYes, exists_eq, exists_eq', rIxL, rIxT, rIxS, exists_and_right, gt_iff_lt, not_true_eq_false, not_false_eq_true, Bool.not_true, Bool.not_false, decide_eq_true_eq, Nat.reduceSub, Nat.reduceAdd, List.append_assoc, tChain, tDIn, tDNotIn, sDDel, tAug, ipI, rInt1_int, rInt1_bl, startF, tSupI, tOst]
    exact ⟨ha, by decide, ha, C, T.ox, n1, .inl ⟨ha, q⟩⟩
abbrev s_TooLarge_init : Stmt := mtop 4 0
theorem sc_TooLarge_init : NScope ["self", "bound", "__class__"] ["self", "bound"] ["__class__"] (defScope s_TooLarge_init) := nscope_by (by decide +kernel)
theorem ok_TooLarge_init {P : Program} {w : World} {K : PySem.W.Frag} {mg : Str → Option Value} {base : Heap} {CX : CXT} {f cc cda C : Addr} {fd : FuncData} (F : FunX K "__init__" "TooLarge.__init__" s_TooLarge_init f fd cc cda C) (T : ErrC K C) (G : CodeF K P cda) (hsup : mg "super" = none) (n1 : PySem.W.findIn K (.ref C) "bound" = some none) {Pf : V → Prop} (hPf : ∀ v, Pf v → ∃ i : Int, v = .int i ∧ i.natAbs.log2 < 1920) :
    FnOk P w K mg base CX 1 f fd ["self", "bound"] (spErr1 C "bound" Pf) := by
  have F0 := F
  obtain ⟨oc, od, kV, doc, pm, an, ct, osl, hfd, lk, hcd⟩ := F0.ex
  obtain ⟨cl, cld, csl, hcc⟩ := F0.cell
  refine F.ok sc_TooLarge_init (fun vs H Q E h => ?_) (fun A outer s H vs Q E hr h => ?_)
  · obtain ⟨a, v, rfl, _⟩ := h
    rfl
  · obtain ⟨a, v, rfl, hp, ha, q⟩ := h
    obtain ⟨i, rfl, il⟩ := hPf v hp
    have tl := PyProof.Rows.int_text_len_1921 il
    refine ⟨_, psat_cons (psat_sup T G lk (by rw [hfd]; rfl) hcc hsup rfl rfl rfl rfl rfl rfl rfl (pa_cons (pe_joined (.cons pe_str (.cons (pe_fmt (pv 1)) .nil))) pa_nil) rfl rfl rfl rfl rfl) (pss_one (ps_ost (pv 0) (pv 1))), ?_⟩
    try simp (maxSteps := 1000000) only [tSeq, tIfS, tTest, tOp, tUn, tCB, tCons, tNil, tVar, tC, rI0, rI, rU, rEq, rNe, tRet, tRetN, tAsg, gName, gSub, tBM, tBM0, tNext, tB, tNot, tAnd, tOr, tIf, tCall, tDrop, tBreak, tCont, L2.start, tDGet, sDPut, tTup, tLst, tDNewK, tRevL, rCat, rAppend, rPop, rSetL, tAndV, tOrV, tNotV, tSl, tPart, tNoPart, tM1, gTup, gCons, gNil, cxK, cxnK, List.map_cons, List.map_nil, List.length_cons, List.length_nil, List.replicate, List.cons_append, List.nil_append, List.append_nil, List.set_cons_zero, List.set_cons_succ, List.getElem?_cons_zero, List.getElem?_cons_succ, Option.some.injEq, V.ref.injEq, V.int.injEq, V.str.injEq, V.bl.injEq, V.ty.injEq, exists_eq_left', exists_eq_left, exists_and_left, List.cons.injEq, and_true, true_and, sc_ii, sc_ss, sc_bb, sc_ni, sc_in, sc_is, sc_si, sc_nn, decide_true, decide_false, reduceCtorEq, Bool.false_eq_true, if_true, if_false, ite_true, ite_false, exists_const, eq_self, false_and, and_false, or_false, false_or, exists_false, Evl.rLenS, rSum, wipe, tYes, exists_eq, exists_eq', rIxL, rIxT, rIxS, exists_and_right, gt_iff_lt, not_true_eq_false, not_false_eq_true, Bool.not_true, Bool.not_false, decide_eq_true_eq, Nat.reduceSub, Nat.reduceAdd, List.append_assoc, tChain, tDIn, tDNotIn, sDDel, tAug, ipI, rInt1_int, rInt1_bl, startF, tSupI, tJs, tFmt, tOst]
    have z0 : Str.empty.length = 0 := rfl
    have s0 : (Str.ofString "not within the bound of ").length = 24 := by decide +kernel
    refine ⟨ha, small ?_, il, small ?_, by decide, ha, C, T.ox, n1, .inl ⟨ha, q⟩⟩
    all_goals (simp only [len_app, z0, s0]; omega)
abbrev s_BadChooser_init : Stmt := mtop 5 0
theorem sc_BadChooser_init : NScope ["self", "state", "__class__"] ["self", "state"] ["__class__"] (defScope s_BadChooser_init) := nscope_by (by decide +kernel)
theorem ok_BadChooser_init {P : Program} {w : World} {K : PySem.W.Frag} {mg : Str → Option Value} {base : Heap} {CX : CXT} {f cc cda C : Addr} {fd : FuncData} (F : FunX K "__init__" "BadChooser.__init__" s_BadChooser_init f fd cc cda C) (T : ErrC K C) (G : CodeF K P cda) (hsup : mg "super" = none) (n1 : PySem.W.findIn K (.ref C) "state" = some none) {Pf : V → Prop} :
    FnOk P w K mg base CX 1 f fd ["self", "state"] (spErr1 C "state" Pf) := by
  have F0 := F
  obtain ⟨oc, od, kV, doc, pm, an, ct, osl, hfd, lk, hcd⟩ := F0.ex
  obtain ⟨cl, cld, csl, hcc⟩ := F0.cell
  refine F.ok sc_BadChooser_init (fun vs H Q E h => ?_) (fun A outer s H vs Q E hr h => ?_)
  · obtain ⟨a, v, rfl, _⟩ := h
    rfl
  · obtain ⟨a, v, rfl, hp, ha, q⟩ := h
    refine ⟨_, psat_cons (psat_sup T G lk (by rw [hfd]; rfl) hcc hsup rfl rfl rfl rfl rfl rfl rfl (pa_cons pe_str pa_nil) rfl rfl rfl rfl rfl) (pss_one (ps_ost (pv 0) (pv 1))), ?_⟩
    try simp (maxSteps := 1000000) only [tSeq, tIfS, tTest, tOp, tUn, tCB, tCons, tNil, tVar, tC, rI0, rI, rU, rEq, rNe, tRet, tRetN, tAsg, gName, gSub, tBM, tBM0, tNext, tB, tNot, tAnd, tOr, tIf, tCall, tDrop, tBreak, tCont, L2.start, tDGet, sDPut, tTup, tLst, tDNewK, tRevL, rCat, rAppend, rPop, rSetL, tAndV, tOrV, tNotV, tSl, tPart, tNoPart, tM1, gTup, gCons, gNil, cxK, cxnK, List.map_cons, List.map_nil, List.length_cons, List.length_nil, List.replicate, List.cons_append, List.nil_append, List.append_nil, List.set_cons_zero, List.set_cons_succ, List.getElem?_cons_zero, List.getElem?_cons_succ, Option.some.injEq, V.ref.injEq, V.int.injEq, V.str.injEq, V.bl.injEq, V.ty.injEq, exists_eq_left', exists_eq_left, exists_and_left, List.cons.injEq, and_true, true_and, sc_ii, sc_ss, sc_bb, sc_ni, sc_in, sc_is, sc_si, sc_nn, decide_true, decide_false, reduceCtorEq, Bool.false_eq_true, if_true, if_false, ite_true, ite_false, exists_const, eq_self, false_and, and_false, or_false, false_or, exists_false, Evl.rLenS, rSum, wipe, tYes, exists_eq, exists_eq', rIxL, rIxT, rIxS, exists_and_right, gt_iff_lt, not_true_eq_false, not_false_eq_true, Bool.not_true, Bool.not_false, decide_eq_true_eq, Nat.reduceSub, Nat.reduceAdd, List.append_assoc, tChain, tDIn, tDNotIn, sDDel, tAug, ipI, rInt1_int, rInt1_bl, startF, tSupI, tOst]
    exact ⟨ha, by decide, ha, C, T.ox, n1, .inl ⟨ha, q⟩⟩
abbrev s_is_below : Stmt := top 7
theorem sc_is_below : FnScope ["value", "bound"] ["value", "bound"] (defScope s_is_below) := ⟨rfl, rfl, rfl, by decide +kernel, rfl, by decide +kernel, by decide +kernel⟩
abbrev s_check_callers : Stmt := top 12
theorem sc_check_callers : FnScope ["callers"] ["callers"] (defScope s_check_callers) := ⟨rfl, rfl, rfl, by decide +kernel, rfl, by decide +kernel, by decide +kernel⟩
abbrev s_are_groups : Stmt := top 14
theorem sc_are_groups : FnScope ["groups", "callers", "group", "placed", "caller"] ["groups", "callers"] (defScope s_are_groups) := ⟨rfl, rfl, rfl, by decide +kernel, rfl, by decide +kernel, by decide +kernel⟩
abbrev s_is_state : Stmt := top 13
theorem sc_is_state : FnScope ["state", "callers", "many", "groups", "goals", "goal"] ["state", "callers", "many"] (defScope s_is_state) := ⟨rfl, rfl, rfl, by decide +kernel, rfl, by decide +kernel, by decide +kernel⟩
def SmallI (v : V) : Prop := ∃ i : Int, v = .int i ∧ 0 ≤ i ∧ i ≤ 1000
structure Bt (mg : Str → Option Value) (t1 t2 : Tok) : Prop where
  b_isinstance : mg "isinstance" = none
  b_int : mg "int" = none
  b_bool : mg "bool" = none
  b_tuple : mg "tuple" = none
  b_list : mg "list" = none
  b_len : mg "len" = none
  b_all : mg "all" = none
  b_sorted : mg "sorted" = none
  b_range : mg "range" = none
  b_enumerate : mg "enumerate" = none
  c_MOST_CALLERS : mg "MOST_CALLERS" = some (.int 3 t1)
  c_MOST_STATES : mg "MOST_STATES" = some (.int 12 t2)
/-! ### what a chooser's state is -/
abbrev Cst := List (List Int) × List Int
def TGs (H : Hp) (v : V) (gs : List (List Int)) : Prop := ∃ a us, v = .ref a ∧ H a = some (.tup us) ∧ Rw (TI H) us gs
def TSt (H : Hp) (v : V) (s : Cst) : Prop := ∃ a g o, v = .ref a ∧ H a = some (.tup [g, o]) ∧ TGs H g s.1 ∧ TI H o s.2
theorem TGs.tp {H H' : Hp} {v : V} {gs : List (List Int)} (h : TGs H v gs) (t : Tp H H') : TGs H' v gs := by
  obtain ⟨a, us, e, h, r⟩ := h
  exact ⟨a, us, e, t _ _ h, r.mono fun _ _ z => z.tp t⟩
theorem TSt.tp {H H' : Hp} {v : V} {s : Cst} (h : TSt H v s) (t : Tp H H') : TSt H' v s := by
  obtain ⟨a, g, o, e, h, r, q⟩ := h
  exact ⟨a, g, o, e, t _ _ h, r.tp t, q.tp t⟩
def below (m i : Int) : Bool := decide (0 ≤ i) && decide (i < m)
def rgI (n : Int) : List Int := (List.range n.toNat).map fun i => ((i : Nat) : Int)
theorem rgV0 (n : Int) : rgV 0 n = (rgI n).map V.int := by
  unfold rgV rgI
  rw [List.map_map, Int.sub_zero]
  exact List.map_congr_left fun i _ => by simp
def goodGs (c : Int) (gs : List (List Int)) : Bool := (gs.all fun g => decide (0 < g.length)) && ((gs.flatten.all (below c)) && gs.flatten.isPerm (rgI c))
def goodSt (c m : Int) (s : Cst) : Bool := decide ((s.2.length : Int) = c) && (goodGs c s.1 && s.2.all (below m))
/-- sizes that the machine bears -/
def SzSt (s : Cst) : Prop := s.1.length ≤ 50 ∧ s.1.flatten.length ≤ 50 ∧ s.2.length ≤ 50
theorem eqv_ints : ∀ {a b : List Int}, PyData.eqv (.list (a.map PyData.int)) (.list (b.map PyData.int)) = decide (a = b) := by
  have key : ∀ (a b : List Int), PyData.eqvAll (a.map PyData.int) (b.map PyData.int) = decide (a = b) := by
    intro a
    induction a with
    | nil => intro b; cases b <;> rfl
    | cons x r ih =>
      intro b
      cases b with
      | nil => rfl
      | cons y t =>
        show (PyData.eqv (.int x) (.int y) && PyData.eqvAll (r.map PyData.int) (t.map PyData.int)) = _
        rw [ih]
        show ((x == y) && decide (r = t)) = _
        by_cases h : x = y
        · subst h
          by_cases h2 : r = t
          · simp [h2]
          · simp [h2]
        · rw [beq_eq_false_iff_ne.mpr h, Bool.false_and, decide_eq_false (by intro z; cases z; exact h rfl)]
  intro a b
  exact key a b
theorem sorted_rg {ns fl : List Int} {c : Int} (hp : ns.Perm fl) (hs : ns.Pairwise (· ≤ ·)) : decide (ns = rgI c) = fl.isPerm (rgI c) := by
  rw [Bool.eq_iff_iff, decide_eq_true_eq, List.isPerm_iff]
  constructor
  · intro h; rw [← h]; exact hp.symm
  · intro h
    refine List.Perm.eq_of_pairwise (le := (· ≤ ·)) (fun a b _ _ h1 h2 => Int.le_antisymm h1 h2) hs ?_ (hp.trans h)
    unfold rgI
    rw [List.pairwise_map]
    exact List.Pairwise.imp (fun {a b} h => by omega) List.pairwise_lt_range
theorem intsD {K : PySem.W.Frag} {H : Hp} : ∀ xs : List Int, DpAll K H (xs.map V.int) (xs.map PyData.int)
  | [] => .nil
  | x :: r => .cons (.int x) (intsD r)
theorem ints_shaped (xs : List Int) : SeqAt.shaped (.list (xs.map PyData.int)) = true := by
  have a1 : ∀ xs : List Int, PyData.canLayAll0 (xs.map PyData.int) = true := fun xs => by
    induction xs with
    | nil => rfl
    | cons x r ih => exact ih
  have a2 : ∀ xs : List Int, PyData.depthAll (xs.map PyData.int) ≤ 1 := fun xs => by
    induction xs with
    | nil => exact Nat.zero_le _
    | cons x r ih =>
      show max (PyData.depth (.int x)) (PyData.depthAll (r.map PyData.int)) ≤ 1
      have : PyData.depth (.int x) ≤ 1 := by simp [PyData.depth]
      omega
  have b1 : decide (PyData.depthAll (xs.map PyData.int) + 1 ≤ 64) = true := decide_eq_true (by have := a2 xs; omega)
  show (PyData.canLayAll0 (xs.map PyData.int) && decide (PyData.depthAll (xs.map PyData.int) + 1 ≤ 64)) = true
  rw [a1, b1]; rfl
section
variable {P : Program} {w : World} {K : PySem.W.Frag} {mg : Str → Option Value} {base : Heap} {t1 t2 : Tok}
def spBelow : Sp := fun vs H Q _ => ∃ (i m : Int), vs = [.int i, .int m] ∧ Q (.bl (below m i)) H
theorem ok_is_below {f : Addr} {fd : FuncData} (D : Df K mg "is_below" s_is_below ["value", "bound"] f fd) (T : Bt mg t1 t2) : FnOk P w K mg base CX0 1 f fd ["value", "bound"] spBelow := by
  refine D.F.ok sc_is_below (fun vs H Q E h => ?_) (fun cdv A outer s H vs Q E hr h => ?_)
  · obtain ⟨v, m, rfl, _⟩ := h
    rfl
  · obtain ⟨i, m, rfl, q⟩ := h
    refine ⟨_, (pss_one (ps_ret (pe_and (pe_callB (id := "isinstance") (r := rIsi K) call_isi (by rfl) T.b_isinstance (by decide +kernel) (pa_cons (pv 0) (pa_cons (pe_bltn (v := .ty "int") (by rfl) T.b_int (by decide +kernel) rfl) pa_nil))) (pe_and (pe_not (pe_callB (id := "isinstance") (r := rIsi K) call_isi (by rfl) T.b_isinstance (by decide +kernel) (pa_cons (pv 0) (pa_cons (pe_bltn (v := .ty "bool") (by rfl) T.b_bool (by decide +kernel) rfl) pa_nil)))) (pe_one (pe_chain op_le op_lt pe_int (pv 0) (pv 1))))))), ?_⟩
    try simp (maxSteps := 1000000) only [tSeq, tIfS, tTest, tOp, tUn, tCB, tCons, tNil, tVar, tC, rI0, rI, rU, rEq, rNe, tRet, tRetN, tAsg, gName, gSub, tBM, tBM0, tNext, tB, tNot, tAnd, tOr, tIf, tCall, tDrop, tBreak, tCont, L2.start, tDGet, sDPut, tTup, tLst, tDNewK, tRevL, rCat, rAppend, rPop, rSetL, tAndV, tOrV, tNotV, tSl, tPart, tNoPart, tM1, gTup, gCons, gNil, cxK, cxnK, List.map_cons, List.map_nil, List.length_cons, List.length_nil, List.replicate, List.cons_append, List.nil_append, List.append_nil, List.set_cons_zero, List.set_cons_succ, List.getElem?_cons_zero, List.getElem?_cons_succ, Option.some.injEq, V.ref.injEq, V.int.injEq, V.str.injEq, V.bl.injEq, V.ty.injEq, exists_eq_left', exists_eq_left, exists_and_left, List.cons.injEq, and_true, true_and, sc_ii, sc_ss, sc_bb, sc_ni, sc_in, sc_is, sc_si, sc_nn, decide_true, decide_false, reduceCtorEq, Bool.false_eq_true, if_true, if_false, ite_true, ite_false, exists_const, eq_self, false_and, and_false, or_false, false_or, exists_false, Evl.rLenS, rSum, wipe, tYes, exists_eq, exists_eq', rIxL, rIxT, rIxS, exists_and_right, gt_iff_lt, not_true_eq_false, not_false_eq_true, Bool.not_true, Bool.not_false, decide_eq_true_eq, Nat.reduceSub, Nat.reduceAdd, List.append_assoc, tChain, tDIn, tDNotIn, sDDel, tAug, ipI, rInt1_int, rInt1_bl]
    refine isi_int_int ?_
    try simp (maxSteps := 1000000) only [tSeq, tIfS, tTest, tOp, tUn, tCB, tCons, tNil, tVar, tC, rI0, rI, rU, rEq, rNe, tRet, tRetN, tAsg, gName, gSub, tBM, tBM0, tNext, tB, tNot, tAnd, tOr, tIf, tCall, tDrop, tBreak, tCont, L2.start, tDGet, sDPut, tTup, tLst, tDNewK, tRevL, rCat, rAppend, rPop, rSetL, tAndV, tOrV, tNotV, tSl, tPart, tNoPart, tM1, gTup, gCons, gNil, cxK, cxnK, List.map_cons, List.map_nil, List.length_cons, List.length_nil, List.replicate, List.cons_append, List.nil_append, List.append_nil, List.set_cons_zero, List.set_cons_succ, List.getElem?_cons_zero, List.getElem?_cons_succ, Option.some.injEq, V.ref.injEq, V.int.injEq, V.str.injEq, V.bl.injEq, V.ty.injEq, exists_eq_left', exists_eq_left, exists_and_left, List.cons.injEq, and_true, true_and, sc_ii, sc_ss, sc_bb, sc_ni, sc_in, sc_is, sc_si, sc_nn, decide_true, decide_false, reduceCtorEq, Bool.false_eq_true, if_true, if_false, ite_true, ite_false, exists_const, eq_self, false_and, and_false, or_false, false_or, exists_false, Evl.rLenS, rSum, wipe, tYes, exists_eq, exists_eq', rIxL, rIxT, rIxS, exists_and_right, gt_iff_lt, not_true_eq_false, not_false_eq_true, Bool.not_true, Bool.not_false, decide_eq_true_eq, Nat.reduceSub, Nat.reduceAdd, List.append_assoc, tChain, tDIn, tDNotIn, sDDel, tAug, ipI, rInt1_int, rInt1_bl]
    refine isi_int_bool ?_
    try simp (maxSteps := 1000000) only [tSeq, tIfS, tTest, tOp, tUn, tCB, tCons, tNil, tVar, tC, rI0, rI, rU, rEq, rNe, tRet, tRetN, tAsg, gName, gSub, tBM, tBM0, tNext, tB, tNot, tAnd, tOr, tIf, tCall, tDrop, tBreak, tCont, L2.start, tDGet, sDPut, tTup, tLst, tDNewK, tRevL, rCat, rAppend, rPop, rSetL, tAndV, tOrV, tNotV, tSl, tPart, tNoPart, tM1, gTup, gCons, gNil, cxK, cxnK, List.map_cons, List.map_nil, List.length_cons, List.length_nil, List.replicate, List.cons_append, List.nil_append, List.append_nil, List.set_cons_zero, List.set_cons_succ, List.getElem?_cons_zero, List.getElem?_cons_succ, Option.some.injEq, V.ref.injEq, V.int.injEq, V.str.injEq, V.bl.injEq, V.ty.injEq, exists_eq_left', exists_eq_left, exists_and_left, List.cons.injEq, and_true, true_and, sc_ii, sc_ss, sc_bb, sc_ni, sc_in, sc_is, sc_si, sc_nn, decide_true, decide_false, reduceCtorEq, Bool.false_eq_true, if_true, if_false, ite_true, ite_false, exists_const, eq_self, false_and, and_false, or_false, false_or, exists_false, Evl.rLenS, rSum, wipe, tYes, exists_eq, exists_eq', rIxL, rIxT, rIxS, exists_and_right, gt_iff_lt, not_true_eq_false, not_false_eq_true, Bool.not_true, Bool.not_false, decide_eq_true_eq, Nat.reduceSub, Nat.reduceAdd, List.append_assoc, tChain, tDIn, tDNotIn, sDDel, tAug, ipI, rInt1_int, rInt1_bl]
    unfold below at q
    by_cases h0 : 0 ≤ i
    · simp only [h0, decide_true, if_true]
      rw [decide_eq_true h0] at q
      exact q
    · simp only [h0, decide_false, Bool.false_eq_true, if_false]
      rw [decide_eq_false h0] at q
      exact q
def spCC (BN : Addr) : Sp := fun vs H Q E => ∃ (c : Int), vs = [.int c] ∧ (1 ≤ c → c ≤ 3 → Q .non H) ∧ (¬ (1 ≤ c ∧ c ≤ 3) → ∀ (e : Addr) (H' : Hp), H e = none → H' e = some (.xd [("number", .int c)]) → Kp [] H H' → E (.ref BN) (some e) H')
theorem ok_check_callers {f : Addr} {fd : FuncData} (D : Df K mg "check_callers" s_check_callers ["callers"] f fd) (T : Bt mg t1 t2) {BN fB : Addr} {fdB : FuncData} (E_BadNumber : Er1 P w K mg base "BadNumber" "number" BN fB fdB ["self", "number"] (fun _ => True))
    {fl : Addr} {fdl : FuncData} (D_is_below : Df K mg "is_below" s_is_below ["value", "bound"] fl fdl) (G_is_below : FnOk P w K mg base CX0 1 fl fdl ["value", "bound"] spBelow) : FnOk P w K mg base (L2.CX P w) 3 f fd ["callers"] (spCC BN) := by
  refine D.F.okX sc_check_callers (fun vs H Q E h => ?_) (fun cdv A outer s H vs Q E hr h => ?_)
  · obtain ⟨d, rfl, _⟩ := h
    rfl
  · obtain ⟨c, rfl, qG, qB⟩ := h
    refine ⟨_, (pss_one (ps_if (PW.pt (pw_or (pt_not (pt_val (pe_call G_is_below (hr.mono (by decide)) rfl D_is_below.g D_is_below.F.kp D_is_below.b .nil pass0 (pa_cons (pv 0) (pa_cons (pe_op op_add (pe_glob (v := .int 3) rfl T.c_MOST_CALLERS ⟨_, rfl⟩) pe_int) pa_nil))))) (pw_or1 (pt_cmpR op_eq (pv 0) pe_int (nomark _))))) (pss_one (ps_raise rfl (takes_of rfl rfl rfl rfl) (pmk_oex E_BadNumber.ox E_BadNumber.ic E_BadNumber.ti E_BadNumber.G (hr.mono (by decide)) E_BadNumber.b .nil passL rfl E_BadNumber.k (pa_cons (pv 0) pa_nil)))) pss_nil)), ?_⟩
    have err : ¬ (1 ≤ c ∧ c ≤ 3) → tMkO BN (spErr1 BN "number" fun _ => True) [] (tCons (tVar 0) tNil) [some (V.int c)] H (fun cls d H' => E cls d H') := fun hb =>
      ⟨_, rfl, err1_made (P := fun _ => True) True.intro fun e H' ne he k => qB hb e H' ne he k⟩
    try simp (maxSteps := 1000000) only [tSeq, tIfS, tTest, tOp, tUn, tCB, tCons, tNil, tVar, tC, rI0, rI, rU, rEq, rNe, tRet, tRetN, tAsg, gName, gSub, tBM, tBM0, tNext, tB, tNot, tAnd, tOr, tIf, tCall, tDrop, tBreak, tCont, L2.start, tDGet, sDPut, tTup, tLst, tDNewK, tRevL, rCat, rAppend, rPop, rSetL, tAndV, tOrV, tNotV, tSl, tPart, tNoPart, tM1, gTup, gCons, gNil, cxK, cxnK, List.map_cons, List.map_nil, List.length_cons, List.length_nil, List.replicate, List.cons_append, List.nil_append, List.append_nil, List.set_cons_zero, List.set_cons_succ, List.getElem?_cons_zero, List.getElem?_cons_succ, Option.some.injEq, V.ref.injEq, V.int.injEq, V.str.injEq, V.bl.injEq, V.ty.injEq, exists_eq_left', exists_eq_left, exists_and_left, List.cons.injEq, and_true, true_and, sc_ii, sc_ss, sc_bb, sc_ni, sc_in, sc_is, sc_si, sc_nn, decide_true, decide_false, reduceCtorEq, Bool.false_eq_true, if_true, if_false, ite_true, ite_false, exists_const, eq_self, false_and, and_false, or_false, false_or, exists_false, Evl.rLenS, rSum, wipe, tYes, exists_eq, exists_eq', rIxL, rIxT, rIxS, exists_and_right, gt_iff_lt, not_true_eq_false, not_false_eq_true, Bool.not_true, Bool.not_false, decide_eq_true_eq, Nat.reduceSub, Nat.reduceAdd, List.append_assoc, tChain, tDIn, tDNotIn, sDDel, tAug, ipI, rInt1_int, rInt1_bl]
    refine ⟨c, _, rfl, ?_⟩
    by_cases h : 1 ≤ c ∧ c ≤ 3
    · have hb : below 4 c = true := by unfold below; rw [decide_eq_true (by omega), decide_eq_true (by omega)]; rfl
      have hb' : below (3 + 1) c = true := hb
      rw [hb']
      try simp (maxSteps := 1000000) only [tSeq, tIfS, tTest, tOp, tUn, tCB, tCons, tNil, tVar, tC, rI0, rI, rU, rEq, rNe, tRet, tRetN, tAsg, gName, gSub, tBM, tBM0, tNext, tB, tNot, tAnd, tOr, tIf, tCall, tDrop, tBreak, tCont, L2.start, tDGet, sDPut, tTup, tLst, tDNewK, tRevL, rCat, rAppend, rPop, rSetL, tAndV, tOrV, tNotV, tSl, tPart, tNoPart, tM1, gTup, gCons, gNil, cxK, cxnK, List.map_cons, List.map_nil, List.length_cons, List.length_nil, List.replicate, List.cons_append, List.nil_append, List.append_nil, List.set_cons_zero, List.set_cons_succ, List.getElem?_cons_zero, List.getElem?_cons_succ, Option.some.injEq, V.ref.injEq, V.int.injEq, V.str.injEq, V.bl.injEq, V.ty.injEq, exists_eq_left', exists_eq_left, exists_and_left, List.cons.injEq, and_true, true_and, sc_ii, sc_ss, sc_bb, sc_ni, sc_in, sc_is, sc_si, sc_nn, decide_true, decide_false, reduceCtorEq, Bool.false_eq_true, if_true, if_false, ite_true, ite_false, exists_const, eq_self, false_and, and_false, or_false, false_or, exists_false, Evl.rLenS, rSum, wipe, tYes, exists_eq, exists_eq', rIxL, rIxT, rIxS, exists_and_right, gt_iff_lt, not_true_eq_false, not_false_eq_true, Bool.not_true, Bool.not_false, decide_eq_true_eq, Nat.reduceSub, Nat.reduceAdd, List.append_assoc, tChain, tDIn, tDNotIn, sDDel, tAug, ipI, rInt1_int, rInt1_bl]
      rw [if_neg (by omega)]
      exact qG h.1 h.2
    · by_cases hz : c = 0
      · subst hz
        have hb' : below (3 + 1) 0 = true := by decide
        rw [hb']
        try simp (maxSteps := 1000000) only [tSeq, tIfS, tTest, tOp, tUn, tCB, tCons, tNil, tVar, tC, rI0, rI, rU, rEq, rNe, tRet, tRetN, tAsg, gName, gSub, tBM, tBM0, tNext, tB, tNot, tAnd, tOr, tIf, tCall, tDrop, tBreak, tCont, L2.start, tDGet, sDPut, tTup, tLst, tDNewK, tRevL, rCat, rAppend, rPop, rSetL, tAndV, tOrV, tNotV, tSl, tPart, tNoPart, tM1, gTup, gCons, gNil, cxK, cxnK, List.map_cons, List.map_nil, List.length_cons, List.length_nil, List.replicate, List.cons_append, List.nil_append, List.append_nil, List.set_cons_zero, List.set_cons_succ, List.getElem?_cons_zero, List.getElem?_cons_succ, Option.some.injEq, V.ref.injEq, V.int.injEq, V.str.injEq, V.bl.injEq, V.ty.injEq, exists_eq_left', exists_eq_left, exists_and_left, List.cons.injEq, and_true, true_and, sc_ii, sc_ss, sc_bb, sc_ni, sc_in, sc_is, sc_si, sc_nn, decide_true, decide_false, reduceCtorEq, Bool.false_eq_true, if_true, if_false, ite_true, ite_false, exists_const, eq_self, false_and, and_false, or_false, false_or, exists_false, Evl.rLenS, rSum, wipe, tYes, exists_eq, exists_eq', rIxL, rIxT, rIxS, exists_and_right, gt_iff_lt, not_true_eq_false, not_false_eq_true, Bool.not_true, Bool.not_false, decide_eq_true_eq, Nat.reduceSub, Nat.reduceAdd, List.append_assoc, tChain, tDIn, tDNotIn, sDDel, tAug, ipI, rInt1_int, rInt1_bl]
        exact err h
      · have hb' : below (3 + 1) c = false := by
          unfold below
          by_cases h0 : 0 ≤ c
          · rw [decide_eq_true h0, decide_eq_false (by omega)]; rfl
          · rw [decide_eq_false h0]; rfl
        rw [hb']
        try simp (maxSteps := 1000000) only [tSeq, tIfS, tTest, tOp, tUn, tCB, tCons, tNil, tVar, tC, rI0, rI, rU, rEq, rNe, tRet, tRetN, tAsg, gName, gSub, tBM, tBM0, tNext, tB, tNot, tAnd, tOr, tIf, tCall, tDrop, tBreak, tCont, L2.start, tDGet, sDPut, tTup, tLst, tDNewK, tRevL, rCat, rAppend, rPop, rSetL, tAndV, tOrV, tNotV, tSl, tPart, tNoPart, tM1, gTup, gCons, gNil, cxK, cxnK, List.map_cons, List.map_nil, List.length_cons, List.length_nil, List.replicate, List.cons_append, List.nil_append, List.append_nil, List.set_cons_zero, List.set_cons_succ, List.getElem?_cons_zero, List.getElem?_cons_succ, Option.some.injEq, V.ref.injEq, V.int.injEq, V.str.injEq, V.bl.injEq, V.ty.injEq, exists_eq_left', exists_eq_left, exists_and_left, List.cons.injEq, and_true, true_and, sc_ii, sc_ss, sc_bb, sc_ni, sc_in, sc_is, sc_si, sc_nn, decide_true, decide_false, reduceCtorEq, Bool.false_eq_true, if_true, if_false, ite_true, ite_false, exists_const, eq_self, false_and, and_false, or_false, false_or, exists_false, Evl.rLenS, rSum, wipe, tYes, exists_eq, exists_eq', rIxL, rIxT, rIxS, exists_and_right, gt_iff_lt, not_true_eq_false, not_false_eq_true, Bool.not_true, Bool.not_false, decide_eq_true_eq, Nat.reduceSub, Nat.reduceAdd, List.append_assoc, tChain, tDIn, tDNotIn, sDDel, tAug, ipI, rInt1_int, rInt1_bl]
        exact err h
def spGs : Sp := fun vs H Q _ => ∃ (v : V) (c : Int) (gs : List (List Int)), vs = [v, .int c] ∧ TGs H v gs ∧ 1 ≤ c ∧ c ≤ 3 ∧ gs.length ≤ 50 ∧ gs.flatten.length ≤ 50 ∧ ∀ H', Kp [] H H' → Q (.bl (goodGs c gs)) H'
theorem ok_are_groups {f : Addr} {fd : FuncData} (D : Df K mg "are_groups" s_are_groups ["groups", "callers"] f fd) (T : Bt mg t1 t2) {fl : Addr} {fdl : FuncData} (D_is_below : Df K mg "is_below" s_is_below ["value", "bound"] fl fdl) (G_is_below : FnOk P w K mg base CX0 1 fl fdl ["value", "bound"] spBelow) : FnOk P w K mg base CX0 2 f fd ["groups", "callers"] spGs := by
  refine D.F.ok sc_are_groups (fun vs H Q E h => ?_) (fun cdv A outer s H vs Q E hr h => ?_)
  · obtain ⟨_, _, _, rfl, _⟩ := h
    rfl
  · obtain ⟨v, c, gs, rfl, hg, c1, c3, gl, fl, q⟩ := h
    obtain ⟨a, us, rfl, ha, hus⟩ := hg
    refine ⟨_, (pss_cons (ps_if (pt_not (pt_val (pe_callB (id := "all") (r := rAll K) (cr_all rfl) (by rfl) T.b_all (by decide +kernel) (pa_cons (pe_lc (own := [("group", 2)]) (g := (gName 2)) (tt := tYes) rfl sc_are_groups.nd (pi_tup (pv 0)) (blkOk_by (N := ["groups", "callers", "group", "placed", "caller"]) (sc := defScope s_are_groups) (by decide +kernel)) (fun _ _ _ _ _ => (pg_name (i := 2) sc_are_groups.nd rfl (Or.inl rfl))) (fun _ _ _ _ _ => pts_nil) (fun _ _ _ _ _ => (pe_and (pe_callB (id := "isinstance") (r := rIsi K) call_isi (by rfl) T.b_isinstance (by decide +kernel) (pa_cons (pv 2) (pa_cons (pe_bltn (v := .ty "tuple") (by rfl) T.b_tuple (by decide +kernel) rfl) pa_nil))) (pe_one (pe_cmpR op_gt (pe_callB (id := "len") (r := Evl.rLenS K) call_len_seq (by rfl) T.b_len PySem.boot_len (pa_cons (pv 2) pa_nil)) pe_int (nomark _)))))) pa_nil)))) (pss_one (ps_ret pe_bl)) pss_nil)
      (pss_cons (ps_setLc2 (i := 3) (own := [("group", 2), ("caller", 4)]) (g1 := (gName 2)) (g2 := (gName 4)) (vs2 := [4]) (tt1 := tYes) (tt2 := tYes) rfl sc_are_groups.nd rfl rfl (sw_true rfl rfl rfl (by decide +kernel)) (pi_tup (pv 0)) (blkOk_by (N := ["groups", "callers", "group", "placed", "caller"]) (sc := defScope s_are_groups) (by decide +kernel)) (by decide) (fun _ _ _ _ _ => (pg_name (i := 2) sc_are_groups.nd rfl (Or.inl rfl))) (fun _ _ _ _ _ => pts_nil) (fun _ _ _ _ _ => ((pi_tup (pv 2)) : PI _ _ _ (iTup K _))) (fun _ _ _ _ _ => (pg_name (i := 4) sc_are_groups.nd rfl (Or.inl rfl))) (fun _ _ _ _ _ => pts_nil) (fun _ _ _ _ _ => (pv 4)))
      (pss_one (ps_ret (pe_and (pe_callB (id := "all") (r := rAll K) (cr_all rfl) (by rfl) T.b_all (by decide +kernel) (pa_cons (pe_lc (own := [("caller", 4)]) (g := (gName 4)) (tt := tYes) rfl sc_are_groups.nd (pi_list (pv 3)) (blkOk_by (N := ["groups", "callers", "group", "placed", "caller"]) (sc := defScope s_are_groups) (by decide +kernel)) (fun _ _ _ _ _ => (pg_name (i := 4) sc_are_groups.nd rfl (Or.inl rfl))) (fun _ _ _ _ _ => pts_nil) (fun _ _ _ _ _ => (pe_call G_is_below (hr.mono (by decide)) rfl D_is_below.g D_is_below.F.kp D_is_below.b .nil pass0 (pa_cons (pv 4) (pa_cons (pv 1) pa_nil))))) pa_nil)) (pe_one (pe_cmpR (op_eqD hr.units) (pe_callB (id := "sorted") (r := rSorted K) cr_sorted (by rfl) T.b_sorted (by decide +kernel) (pa_cons (pv 3) pa_nil)) (pe_listRg rfl (by rfl) T.b_list (prg_1 (by rfl) T.b_range (pv 1))) (nomark _)))))))), ?_⟩
    try simp (maxSteps := 1000000) only [tSeq, tIfS, tTest, tOp, tUn, tCB, tCons, tNil, tVar, tC, rI0, rI, rU, rEq, rNe, tRet, tRetN, tAsg, gName, gSub, tBM, tBM0, tNext, tB, tNot, tAnd, tOr, tIf, tCall, tDrop, tBreak, tCont, L2.start, tDGet, sDPut, tTup, tLst, tDNewK, tRevL, rCat, rAppend, rPop, rSetL, tAndV, tOrV, tNotV, tSl, tPart, tNoPart, tM1, gTup, gCons, gNil, cxK, cxnK, List.map_cons, List.map_nil, List.length_cons, List.length_nil, List.replicate, List.cons_append, List.nil_append, List.append_nil, List.set_cons_zero, List.set_cons_succ, List.getElem?_cons_zero, List.getElem?_cons_succ, Option.some.injEq, V.ref.injEq, V.int.injEq, V.str.injEq, V.bl.injEq, V.ty.injEq, exists_eq_left', exists_eq_left, exists_and_left, List.cons.injEq, and_true, true_and, sc_ii, sc_ss, sc_bb, sc_ni, sc_in, sc_is, sc_si, sc_nn, decide_true, decide_false, reduceCtorEq, Bool.false_eq_true, if_true, if_false, ite_true, ite_false, exists_const, eq_self, false_and, and_false, or_false, false_or, exists_false, Evl.rLenS, rSum, wipe, tYes, exists_eq, exists_eq', rIxL, rIxT, rIxS, exists_and_right, gt_iff_lt, not_true_eq_false, not_false_eq_true, Bool.not_true, Bool.not_false, decide_eq_true_eq, Nat.reduceSub, Nat.reduceAdd, List.append_assoc, tChain, tDIn, tDNotIn, sDDel, tAug, ipI, rInt1_int, rInt1_bl]
    have gnn : goodGs c gs = ((gs.all fun g => decide (0 < g.length)) && ((gs.flatten.all (below c)) && gs.flatten.isPerm (rgI c))) := rfl
    refine lcMapT (R := TI) (fun _ _ _ _ t h => h.tp t) (fun g : List Int => decide (0 < g.length)) V.bl (fun R h => ⟨_, rfl, h⟩) (sq_t ha) hus (by omega) (by simp) (fun v g H1 Q' hg h1 k1 q' => ?_) fun D1 H1 nD1 hD1 k1 => ?_
    · obtain ⟨b, rfl, hb⟩ := h1
      try simp (maxSteps := 1000000) only [tSeq, tIfS, tTest, tOp, tUn, tCB, tCons, tNil, tVar, tC, rI0, rI, rU, rEq, rNe, tRet, tRetN, tAsg, gName, gSub, tBM, tBM0, tNext, tB, tNot, tAnd, tOr, tIf, tCall, tDrop, tBreak, tCont, L2.start, tDGet, sDPut, tTup, tLst, tDNewK, tRevL, rCat, rAppend, rPop, rSetL, tAndV, tOrV, tNotV, tSl, tPart, tNoPart, tM1, gTup, gCons, gNil, cxK, cxnK, List.map_cons, List.map_nil, List.length_cons, List.length_nil, List.replicate, List.cons_append, List.nil_append, List.append_nil, List.set_cons_zero, List.set_cons_succ, List.getElem?_cons_zero, List.getElem?_cons_succ, Option.some.injEq, V.ref.injEq, V.int.injEq, V.str.injEq, V.bl.injEq, V.ty.injEq, exists_eq_left', exists_eq_left, exists_and_left, List.cons.injEq, and_true, true_and, sc_ii, sc_ss, sc_bb, sc_ni, sc_in, sc_is, sc_si, sc_nn, decide_true, decide_false, reduceCtorEq, Bool.false_eq_true, if_true, if_false, ite_true, ite_false, exists_const, eq_self, false_and, and_false, or_false, false_or, exists_false, Evl.rLenS, rSum, wipe, tYes, exists_eq, exists_eq', rIxL, rIxT, rIxS, exists_and_right, gt_iff_lt, not_true_eq_false, not_false_eq_true, Bool.not_true, Bool.not_false, decide_eq_true_eq, Nat.reduceSub, Nat.reduceAdd, List.append_assoc, tChain, tDIn, tDNotIn, sDDel, tAug, ipI, rInt1_int, rInt1_bl]
      refine isi_mk (.tup hb) (b := true) (by decide +kernel) ?_
      try simp (maxSteps := 1000000) only [tSeq, tIfS, tTest, tOp, tUn, tCB, tCons, tNil, tVar, tC, rI0, rI, rU, rEq, rNe, tRet, tRetN, tAsg, gName, gSub, tBM, tBM0, tNext, tB, tNot, tAnd, tOr, tIf, tCall, tDrop, tBreak, tCont, L2.start, tDGet, sDPut, tTup, tLst, tDNewK, tRevL, rCat, rAppend, rPop, rSetL, tAndV, tOrV, tNotV, tSl, tPart, tNoPart, tM1, gTup, gCons, gNil, cxK, cxnK, List.map_cons, List.map_nil, List.length_cons, List.length_nil, List.replicate, List.cons_append, List.nil_append, List.append_nil, List.set_cons_zero, List.set_cons_succ, List.getElem?_cons_zero, List.getElem?_cons_succ, Option.some.injEq, V.ref.injEq, V.int.injEq, V.str.injEq, V.bl.injEq, V.ty.injEq, exists_eq_left', exists_eq_left, exists_and_left, List.cons.injEq, and_true, true_and, sc_ii, sc_ss, sc_bb, sc_ni, sc_in, sc_is, sc_si, sc_nn, decide_true, decide_false, reduceCtorEq, Bool.false_eq_true, if_true, if_false, ite_true, ite_false, exists_const, eq_self, false_and, and_false, or_false, false_or, exists_false, Evl.rLenS, rSum, wipe, tYes, exists_eq, exists_eq', rIxL, rIxT, rIxS, exists_and_right, gt_iff_lt, not_true_eq_false, not_false_eq_true, Bool.not_true, Bool.not_false, decide_eq_true_eq, Nat.reduceSub, Nat.reduceAdd, List.append_assoc, tChain, tDIn, tDNotIn, sDDel, tAug, ipI, rInt1_int, rInt1_bl]
      refine ⟨_, .inr (sq_t hb), ?_⟩
      rw [List.length_map]
      have e : decide ((0 : Int) < (g.length : Nat)) = decide (0 < g.length) := decide_eq_decide.mpr (by omega)
      rw [e]
      exact q' H1 (Kp.refl _ _)
    refine ⟨D1, gs.map fun g => decide (0 < g.length), rfl, sq_l (hD1.trans (by rw [List.map_map]; rfl)), ?_⟩
    have ea : (gs.map fun g => decide (0 < g.length)).all id = gs.all fun g => decide (0 < g.length) := by rw [List.all_map]; rfl
    rw [ea]
    cases hn : gs.all fun g => decide (0 < g.length) with
    | false =>
      try simp (maxSteps := 1000000) only [tSeq, tIfS, tTest, tOp, tUn, tCB, tCons, tNil, tVar, tC, rI0, rI, rU, rEq, rNe, tRet, tRetN, tAsg, gName, gSub, tBM, tBM0, tNext, tB, tNot, tAnd, tOr, tIf, tCall, tDrop, tBreak, tCont, L2.start, tDGet, sDPut, tTup, tLst, tDNewK, tRevL, rCat, rAppend, rPop, rSetL, tAndV, tOrV, tNotV, tSl, tPart, tNoPart, tM1, gTup, gCons, gNil, cxK, cxnK, List.map_cons, List.map_nil, List.length_cons, List.length_nil, List.replicate, List.cons_append, List.nil_append, List.append_nil, List.set_cons_zero, List.set_cons_succ, List.getElem?_cons_zero, List.getElem?_cons_succ, Option.some.injEq, V.ref.injEq, V.int.injEq, V.str.injEq, V.bl.injEq, V.ty.injEq, exists_eq_left', exists_eq_left, exists_and_left, List.cons.injEq, and_true, true_and, sc_ii, sc_ss, sc_bb, sc_ni, sc_in, sc_is, sc_si, sc_nn, decide_true, decide_false, reduceCtorEq, Bool.false_eq_true, if_true, if_false, ite_true, ite_false, exists_const, eq_self, false_and, and_false, or_false, false_or, exists_false, Evl.rLenS, rSum, wipe, tYes, exists_eq, exists_eq', rIxL, rIxT, rIxS, exists_and_right, gt_iff_lt, not_true_eq_false, not_false_eq_true, Bool.not_true, Bool.not_false, decide_eq_true_eq, Nat.reduceSub, Nat.reduceAdd, List.append_assoc, tChain, tDIn, tDNotIn, sDDel, tAug, ipI, rInt1_int, rInt1_bl]
      have := q H1 k1
      rw [gnn, hn] at this
      exact this
    | true =>
      rw [hn] at gnn
      try simp (maxSteps := 1000000) only [tSeq, tIfS, tTest, tOp, tUn, tCB, tCons, tNil, tVar, tC, rI0, rI, rU, rEq, rNe, tRet, tRetN, tAsg, gName, gSub, tBM, tBM0, tNext, tB, tNot, tAnd, tOr, tIf, tCall, tDrop, tBreak, tCont, L2.start, tDGet, sDPut, tTup, tLst, tDNewK, tRevL, rCat, rAppend, rPop, rSetL, tAndV, tOrV, tNotV, tSl, tPart, tNoPart, tM1, gTup, gCons, gNil, cxK, cxnK, List.map_cons, List.map_nil, List.length_cons, List.length_nil, List.replicate, List.cons_append, List.nil_append, List.append_nil, List.set_cons_zero, List.set_cons_succ, List.getElem?_cons_zero, List.getElem?_cons_succ, Option.some.injEq, V.ref.injEq, V.int.injEq, V.str.injEq, V.bl.injEq, V.ty.injEq, exists_eq_left', exists_eq_left, exists_and_left, List.cons.injEq, and_true, true_and, sc_ii, sc_ss, sc_bb, sc_ni, sc_in, sc_is, sc_si, sc_nn, decide_true, decide_false, reduceCtorEq, Bool.false_eq_true, if_true, if_false, ite_true, ite_false, exists_const, eq_self, false_and, and_false, or_false, false_or, exists_false, Evl.rLenS, rSum, wipe, tYes, exists_eq, exists_eq', rIxL, rIxT, rIxS, exists_and_right, gt_iff_lt, not_true_eq_false, not_false_eq_true, Bool.not_true, Bool.not_false, decide_eq_true_eq, Nat.reduceSub, Nat.reduceAdd, List.append_assoc, tChain, tDIn, tDNotIn, sDDel, tAug, ipI, rInt1_int, rInt1_bl]
      refine lcFlat (fun R h => ⟨_, rfl, h⟩) (sq_t (k1 _ _ not0 ha)) (hus.mono fun _ _ h => h.kp k1) (by omega) (by simp) (by simp) (by decide) fun D2 H2 nD2 hD2 k2 => ?_
      have k12 := k1.trans k2
      refine lcMapL (R := fun _ v x => v = V.int x) (fun _ _ _ _ _ h => h) (below c) V.bl (fun R h => ⟨_, rfl, h⟩) (sq_l hD2) (rwInts _) (by omega) (by simp) (fun v x H3 Q' hx h3 k3 q' => ?_) fun D3 H3 nD3 hD3 k3 => ?_
      · subst h3
        try simp (maxSteps := 1000000) only [tSeq, tIfS, tTest, tOp, tUn, tCB, tCons, tNil, tVar, tC, rI0, rI, rU, rEq, rNe, tRet, tRetN, tAsg, gName, gSub, tBM, tBM0, tNext, tB, tNot, tAnd, tOr, tIf, tCall, tDrop, tBreak, tCont, L2.start, tDGet, sDPut, tTup, tLst, tDNewK, tRevL, rCat, rAppend, rPop, rSetL, tAndV, tOrV, tNotV, tSl, tPart, tNoPart, tM1, gTup, gCons, gNil, cxK, cxnK, List.map_cons, List.map_nil, List.length_cons, List.length_nil, List.replicate, List.cons_append, List.nil_append, List.append_nil, List.set_cons_zero, List.set_cons_succ, List.getElem?_cons_zero, List.getElem?_cons_succ, Option.some.injEq, V.ref.injEq, V.int.injEq, V.str.injEq, V.bl.injEq, V.ty.injEq, exists_eq_left', exists_eq_left, exists_and_left, List.cons.injEq, and_true, true_and, sc_ii, sc_ss, sc_bb, sc_ni, sc_in, sc_is, sc_si, sc_nn, decide_true, decide_false, reduceCtorEq, Bool.false_eq_true, if_true, if_false, ite_true, ite_false, exists_const, eq_self, false_and, and_false, or_false, false_or, exists_false, Evl.rLenS, rSum, wipe, tYes, exists_eq, exists_eq', rIxL, rIxT, rIxS, exists_and_right, gt_iff_lt, not_true_eq_false, not_false_eq_true, Bool.not_true, Bool.not_false, decide_eq_true_eq, Nat.reduceSub, Nat.reduceAdd, List.append_assoc, tChain, tDIn, tDNotIn, sDDel, tAug, ipI, rInt1_int, rInt1_bl]
        exact ⟨x, c, rfl, q' H3 (Kp.refl _ _)⟩
      refine ⟨D3, gs.flatten.map (below c), rfl, sq_l (hD3.trans (by rw [List.map_map]; rfl)), ?_⟩
      have eb : (gs.flatten.map (below c)).all id = gs.flatten.all (below c) := by rw [List.all_map]; rfl
      rw [eb]
      have k13 := k12.trans k3
      cases hn2 : gs.flatten.all (below c) with
      | false =>
        try simp (maxSteps := 1000000) only [tSeq, tIfS, tTest, tOp, tUn, tCB, tCons, tNil, tVar, tC, rI0, rI, rU, rEq, rNe, tRet, tRetN, tAsg, gName, gSub, tBM, tBM0, tNext, tB, tNot, tAnd, tOr, tIf, tCall, tDrop, tBreak, tCont, L2.start, tDGet, sDPut, tTup, tLst, tDNewK, tRevL, rCat, rAppend, rPop, rSetL, tAndV, tOrV, tNotV, tSl, tPart, tNoPart, tM1, gTup, gCons, gNil, cxK, cxnK, List.map_cons, List.map_nil, List.length_cons, List.length_nil, List.replicate, List.cons_append, List.nil_append, List.append_nil, List.set_cons_zero, List.set_cons_succ, List.getElem?_cons_zero, List.getElem?_cons_succ, Option.some.injEq, V.ref.injEq, V.int.injEq, V.str.injEq, V.bl.injEq, V.ty.injEq, exists_eq_left', exists_eq_left, exists_and_left, List.cons.injEq, and_true, true_and, sc_ii, sc_ss, sc_bb, sc_ni, sc_in, sc_is, sc_si, sc_nn, decide_true, decide_false, reduceCtorEq, Bool.false_eq_true, if_true, if_false, ite_true, ite_false, exists_const, eq_self, false_and, and_false, or_false, false_or, exists_false, Evl.rLenS, rSum, wipe, tYes, exists_eq, exists_eq', rIxL, rIxT, rIxS, exists_and_right, gt_iff_lt, not_true_eq_false, not_false_eq_true, Bool.not_true, Bool.not_false, decide_eq_true_eq, Nat.reduceSub, Nat.reduceAdd, List.append_assoc, tChain, tDIn, tDNotIn, sDDel, tAug, ipI, rInt1_int, rInt1_bl]
        have := q H3 k13
        rw [gnn, hn2] at this
        exact this
      | true =>
        rw [hn2] at gnn
        try simp (maxSteps := 1000000) only [tSeq, tIfS, tTest, tOp, tUn, tCB, tCons, tNil, tVar, tC, rI0, rI, rU, rEq, rNe, tRet, tRetN, tAsg, gName, gSub, tBM, tBM0, tNext, tB, tNot, tAnd, tOr, tIf, tCall, tDrop, tBreak, tCont, L2.start, tDGet, sDPut, tTup, tLst, tDNewK, tRevL, rCat, rAppend, rPop, rSetL, tAndV, tOrV, tNotV, tSl, tPart, tNoPart, tM1, gTup, gCons, gNil, cxK, cxnK, List.map_cons, List.map_nil, List.length_cons, List.length_nil, List.replicate, List.cons_append, List.nil_append, List.append_nil, List.set_cons_zero, List.set_cons_succ, List.getElem?_cons_zero, List.getElem?_cons_succ, Option.some.injEq, V.ref.injEq, V.int.injEq, V.str.injEq, V.bl.injEq, V.ty.injEq, exists_eq_left', exists_eq_left, exists_and_left, List.cons.injEq, and_true, true_and, sc_ii, sc_ss, sc_bb, sc_ni, sc_in, sc_is, sc_si, sc_nn, decide_true, decide_false, reduceCtorEq, Bool.false_eq_true, if_true, if_false, ite_true, ite_false, exists_const, eq_self, false_and, and_false, or_false, false_or, exists_false, Evl.rLenS, rSum, wipe, tYes, exists_eq, exists_eq', rIxL, rIxT, rIxS, exists_and_right, gt_iff_lt, not_true_eq_false, not_false_eq_true, Bool.not_true, Bool.not_false, decide_eq_true_eq, Nat.reduceSub, Nat.reduceAdd, List.append_assoc, tChain, tDIn, tDNotIn, sDDel, tAug, ipI, rInt1_int, rInt1_bl]
        refine ⟨D2, gs.flatten, rfl, sq_l (k3 _ _ not0 hD2), by omega, fun ns p pm so np => ?_⟩
        unfold tLstRg tRg1
        refine ⟨.int c, rfl, c, rfl, RgOk.of_le (by omega) (by omega) (by omega) (by omega), fun o no => ?_⟩
        have k4 : Kp [] H3 (upd (upd H3 p (.lst (ns.map V.int))) o (.lst (rgV 0 c))) := (Kp.new np).trans (Kp.new no)
        have po : p ≠ o := ne_of_none upd_same no
        refine ⟨.list (ns.map PyData.int), .list ((rgI c).map PyData.int), .lst (sq_l (by rw [upd_ne po, upd_same])) (intsD ns), .lst (sq_l (by rw [upd_same, rgV0])) (intsD _), ints_shaped ns, ints_shaped _, ?_⟩
        rw [eqv_ints, sorted_rg pm so]
        have := q _ (k13.trans k4)
        rw [gnn] at this
        exact this
def spIsSt : Sp := fun vs H Q _ => ∃ (v : V) (c m : Int) (s : Cst), vs = [v, .int c, .int m] ∧ TSt H v s ∧ 1 ≤ c ∧ c ≤ 3 ∧ SzSt s ∧ ∀ H', Kp [] H H' → Q (.bl (goodSt c m s)) H'
theorem ok_is_state {f : Addr} {fd : FuncData} (D : Df K mg "is_state" s_is_state ["state", "callers", "many"] f fd) (T : Bt mg t1 t2) {fl : Addr} {fdl : FuncData} (D_is_below : Df K mg "is_below" s_is_below ["value", "bound"] fl fdl) (G_is_below : FnOk P w K mg base CX0 1 fl fdl ["value", "bound"] spBelow)
    {fg : Addr} {fdg : FuncData} (D_are_groups : Df K mg "are_groups" s_are_groups ["groups", "callers"] fg fdg) (G_are_groups : FnOk P w K mg base CX0 2 fg fdg ["groups", "callers"] spGs) : FnOk P w K mg base CX0 3 f fd ["state", "callers", "many"] spIsSt := by
  refine D.F.ok sc_is_state (fun vs H Q E h => ?_) (fun cdv A outer s H vs Q E hr h => ?_)
  · obtain ⟨_, _, _, _, rfl, _⟩ := h
    rfl
  · obtain ⟨v, c, m, ⟨gs, os⟩, rfl, ⟨a, g, o, rfl, ha, hg, ho⟩, c1, c3, ⟨z1, z2, z3⟩, q⟩ := h
    refine ⟨_, (pss_cons (ps_if (PW.pt (pw_or (pt_not (pt_val (pe_callB (id := "isinstance") (r := rIsi K) call_isi (by rfl) T.b_isinstance (by decide +kernel) (pa_cons (pv 0) (pa_cons (pe_bltn (v := .ty "tuple") (by rfl) T.b_tuple (by decide +kernel) rfl) pa_nil))))) (pw_or1 (pt_cmpR op_ne (pe_callB (id := "len") (r := Evl.rLenS K) call_len_seq (by rfl) T.b_len PySem.boot_len (pa_cons (pv 0) pa_nil)) pe_int (nomark _))))) (pss_one (ps_ret pe_bl)) pss_nil)
      (pss_cons (ps_asg (pv 0) (pg_tup (n := 2) (by rfl) (pgs_cons (pg_name (i := 3) sc_is_state.nd rfl (Or.inl rfl)) (pgs_cons (pg_name (i := 4) sc_is_state.nd rfl (Or.inl rfl)) pgs_nil))))
      (pss_cons (ps_if (PW.pt (pw_or (pt_not (pt_val (pe_callB (id := "isinstance") (r := rIsi K) call_isi (by rfl) T.b_isinstance (by decide +kernel) (pa_cons (pv 3) (pa_cons (pe_bltn (v := .ty "tuple") (by rfl) T.b_tuple (by decide +kernel) rfl) pa_nil))))) (pw_or (pt_not (pt_val (pe_callB (id := "isinstance") (r := rIsi K) call_isi (by rfl) T.b_isinstance (by decide +kernel) (pa_cons (pv 4) (pa_cons (pe_bltn (v := .ty "tuple") (by rfl) T.b_tuple (by decide +kernel) rfl) pa_nil))))) (pw_or1 (pt_cmpR op_ne (pe_callB (id := "len") (r := Evl.rLenS K) call_len_seq (by rfl) T.b_len PySem.boot_len (pa_cons (pv 4) pa_nil)) (pv 1) (nomark _)))))) (pss_one (ps_ret pe_bl)) pss_nil)
      (pss_one (ps_ret (pe_and (pe_call G_are_groups (hr.mono (by decide)) rfl D_are_groups.g D_are_groups.F.kp D_are_groups.b .nil pass0 (pa_cons (pv 3) (pa_cons (pv 1) pa_nil))) (pe_one (pe_callB (id := "all") (r := rAll K) (cr_all rfl) (by rfl) T.b_all (by decide +kernel) (pa_cons (pe_lc (own := [("goal", 5)]) (g := (gName 5)) (tt := tYes) rfl sc_is_state.nd (pi_tup (pv 4)) (blkOk_by (N := ["state", "callers", "many", "groups", "goals", "goal"]) (sc := defScope s_is_state) (by decide +kernel)) (fun _ _ _ _ _ => (pg_name (i := 5) sc_is_state.nd rfl (Or.inl rfl))) (fun _ _ _ _ _ => pts_nil) (fun _ _ _ _ _ => (pe_call G_is_below (hr.mono (by decide)) rfl D_is_below.g D_is_below.F.kp D_is_below.b .nil pass0 (pa_cons (pv 5) (pa_cons (pv 2) pa_nil))))) pa_nil))))))))), ?_⟩
    try simp (maxSteps := 1000000) only [tSeq, tIfS, tTest, tOp, tUn, tCB, tCons, tNil, tVar, tC, rI0, rI, rU, rEq, rNe, tRet, tRetN, tAsg, gName, gSub, tBM, tBM0, tNext, tB, tNot, tAnd, tOr, tIf, tCall, tDrop, tBreak, tCont, L2.start, tDGet, sDPut, tTup, tLst, tDNewK, tRevL, rCat, rAppend, rPop, rSetL, tAndV, tOrV, tNotV, tSl, tPart, tNoPart, tM1, gTup, gCons, gNil, cxK, cxnK, List.map_cons, List.map_nil, List.length_cons, List.length_nil, List.replicate, List.cons_append, List.nil_append, List.append_nil, List.set_cons_zero, List.set_cons_succ, List.getElem?_cons_zero, List.getElem?_cons_succ, Option.some.injEq, V.ref.injEq, V.int.injEq, V.str.injEq, V.bl.injEq, V.ty.injEq, exists_eq_left', exists_eq_left, exists_and_left, List.cons.injEq, and_true, true_and, sc_ii, sc_ss, sc_bb, sc_ni, sc_in, sc_is, sc_si, sc_nn, decide_true, decide_false, reduceCtorEq, Bool.false_eq_true, if_true, if_false, ite_true, ite_false, exists_const, eq_self, false_and, and_false, or_false, false_or, exists_false, Evl.rLenS, rSum, wipe, tYes, exists_eq, exists_eq', rIxL, rIxT, rIxS, exists_and_right, gt_iff_lt, not_true_eq_false, not_false_eq_true, Bool.not_true, Bool.not_false, decide_eq_true_eq, Nat.reduceSub, Nat.reduceAdd, List.append_assoc, tChain, tDIn, tDNotIn, sDDel, tAug, ipI, rInt1_int, rInt1_bl]
    refine isi_mk (.tup ha) (b := true) (by decide +kernel) ?_
    try simp (maxSteps := 1000000) only [tSeq, tIfS, tTest, tOp, tUn, tCB, tCons, tNil, tVar, tC, rI0, rI, rU, rEq, rNe, tRet, tRetN, tAsg, gName, gSub, tBM, tBM0, tNext, tB, tNot, tAnd, tOr, tIf, tCall, tDrop, tBreak, tCont, L2.start, tDGet, sDPut, tTup, tLst, tDNewK, tRevL, rCat, rAppend, rPop, rSetL, tAndV, tOrV, tNotV, tSl, tPart, tNoPart, tM1, gTup, gCons, gNil, cxK, cxnK, List.map_cons, List.map_nil, List.length_cons, List.length_nil, List.replicate, List.cons_append, List.nil_append, List.append_nil, List.set_cons_zero, List.set_cons_succ, List.getElem?_cons_zero, List.getElem?_cons_succ, Option.some.injEq, V.ref.injEq, V.int.injEq, V.str.injEq, V.bl.injEq, V.ty.injEq, exists_eq_left', exists_eq_left, exists_and_left, List.cons.injEq, and_true, true_and, sc_ii, sc_ss, sc_bb, sc_ni, sc_in, sc_is, sc_si, sc_nn, decide_true, decide_false, reduceCtorEq, Bool.false_eq_true, if_true, if_false, ite_true, ite_false, exists_const, eq_self, false_and, and_false, or_false, false_or, exists_false, Evl.rLenS, rSum, wipe, tYes, exists_eq, exists_eq', rIxL, rIxT, rIxS, exists_and_right, gt_iff_lt, not_true_eq_false, not_false_eq_true, Bool.not_true, Bool.not_false, decide_eq_true_eq, Nat.reduceSub, Nat.reduceAdd, List.append_assoc, tChain, tDIn, tDNotIn, sDDel, tAug, ipI, rInt1_int, rInt1_bl]
    refine ⟨_, .inr (sq_t ha), ?_⟩
    rw [if_neg (fun z => by simp at z)]
    refine ⟨_, sq_t ha, rfl, _, _, rfl, _, _, rfl, rfl, ?_⟩
    obtain ⟨ga, us, rfl, hga, hus⟩ := hg
    obtain ⟨oa, rfl, hoa⟩ := ho
    refine isi_mk (.tup hga) (b := true) (by decide +kernel) ?_
    try simp (maxSteps := 1000000) only [tSeq, tIfS, tTest, tOp, tUn, tCB, tCons, tNil, tVar, tC, rI0, rI, rU, rEq, rNe, tRet, tRetN, tAsg, gName, gSub, tBM, tBM0, tNext, tB, tNot, tAnd, tOr, tIf, tCall, tDrop, tBreak, tCont, L2.start, tDGet, sDPut, tTup, tLst, tDNewK, tRevL, rCat, rAppend, rPop, rSetL, tAndV, tOrV, tNotV, tSl, tPart, tNoPart, tM1, gTup, gCons, gNil, cxK, cxnK, List.map_cons, List.map_nil, List.length_cons, List.length_nil, List.replicate, List.cons_append, List.nil_append, List.append_nil, List.set_cons_zero, List.set_cons_succ, List.getElem?_cons_zero, List.getElem?_cons_succ, Option.some.injEq, V.ref.injEq, V.int.injEq, V.str.injEq, V.bl.injEq, V.ty.injEq, exists_eq_left', exists_eq_left, exists_and_left, List.cons.injEq, and_true, true_and, sc_ii, sc_ss, sc_bb, sc_ni, sc_in, sc_is, sc_si, sc_nn, decide_true, decide_false, reduceCtorEq, Bool.false_eq_true, if_true, if_false, ite_true, ite_false, exists_const, eq_self, false_and, and_false, or_false, false_or, exists_false, Evl.rLenS, rSum, wipe, tYes, exists_eq, exists_eq', rIxL, rIxT, rIxS, exists_and_right, gt_iff_lt, not_true_eq_false, not_false_eq_true, Bool.not_true, Bool.not_false, decide_eq_true_eq, Nat.reduceSub, Nat.reduceAdd, List.append_assoc, tChain, tDIn, tDNotIn, sDDel, tAug, ipI, rInt1_int, rInt1_bl]
    refine isi_mk (.tup hoa) (b := true) (by decide +kernel) ?_
    try simp (maxSteps := 1000000) only [tSeq, tIfS, tTest, tOp, tUn, tCB, tCons, tNil, tVar, tC, rI0, rI, rU, rEq, rNe, tRet, tRetN, tAsg, gName, gSub, tBM, tBM0, tNext, tB, tNot, tAnd, tOr, tIf, tCall, tDrop, tBreak, tCont, L2.start, tDGet, sDPut, tTup, tLst, tDNewK, tRevL, rCat, rAppend, rPop, rSetL, tAndV, tOrV, tNotV, tSl, tPart, tNoPart, tM1, gTup, gCons, gNil, cxK, cxnK, List.map_cons, List.map_nil, List.length_cons, List.length_nil, List.replicate, List.cons_append, List.nil_append, List.append_nil, List.set_cons_zero, List.set_cons_succ, List.getElem?_cons_zero, List.getElem?_cons_succ, Option.some.injEq, V.ref.injEq, V.int.injEq, V.str.injEq, V.bl.injEq, V.ty.injEq, exists_eq_left', exists_eq_left, exists_and_left, List.cons.injEq, and_true, true_and, sc_ii, sc_ss, sc_bb, sc_ni, sc_in, sc_is, sc_si, sc_nn, decide_true, decide_false, reduceCtorEq, Bool.false_eq_true, if_true, if_false, ite_true, ite_false, exists_const, eq_self, false_and, and_false, or_false, false_or, exists_false, Evl.rLenS, rSum, wipe, tYes, exists_eq, exists_eq', rIxL, rIxT, rIxS, exists_and_right, gt_iff_lt, not_true_eq_false, not_false_eq_true, Bool.not_true, Bool.not_false, decide_eq_true_eq, Nat.reduceSub, Nat.reduceAdd, List.append_assoc, tChain, tDIn, tDNotIn, sDDel, tAug, ipI, rInt1_int, rInt1_bl]
    refine ⟨_, .inr (sq_t hoa), ?_⟩
    rw [List.length_map]
    have gs_ : goodSt c m (gs, os) = (decide ((os.length : Int) = c) && (goodGs c gs && os.all (below m))) := rfl
    by_cases hc : (os.length : Int) = c
    · rw [if_neg (by simp [hc])]
      rw [decide_eq_true hc] at gs_
      refine ⟨_, c, gs, rfl, ⟨ga, us, rfl, hga, hus⟩, c1, c3, z1, z2, fun H1 k1 => ?_⟩
      cases hgg : goodGs c gs with
      | false =>
        try simp (maxSteps := 1000000) only [tSeq, tIfS, tTest, tOp, tUn, tCB, tCons, tNil, tVar, tC, rI0, rI, rU, rEq, rNe, tRet, tRetN, tAsg, gName, gSub, tBM, tBM0, tNext, tB, tNot, tAnd, tOr, tIf, tCall, tDrop, tBreak, tCont, L2.start, tDGet, sDPut, tTup, tLst, tDNewK, tRevL, rCat, rAppend, rPop, rSetL, tAndV, tOrV, tNotV, tSl, tPart, tNoPart, tM1, gTup, gCons, gNil, cxK, cxnK, List.map_cons, List.map_nil, List.length_cons, List.length_nil, List.replicate, List.cons_append, List.nil_append, List.append_nil, List.set_cons_zero, List.set_cons_succ, List.getElem?_cons_zero, List.getElem?_cons_succ, Option.some.injEq, V.ref.injEq, V.int.injEq, V.str.injEq, V.bl.injEq, V.ty.injEq, exists_eq_left', exists_eq_left, exists_and_left, List.cons.injEq, and_true, true_and, sc_ii, sc_ss, sc_bb, sc_ni, sc_in, sc_is, sc_si, sc_nn, decide_true, decide_false, reduceCtorEq, Bool.false_eq_true, if_true, if_false, ite_true, ite_false, exists_const, eq_self, false_and, and_false, or_false, false_or, exists_false, Evl.rLenS, rSum, wipe, tYes, exists_eq, exists_eq', rIxL, rIxT, rIxS, exists_and_right, gt_iff_lt, not_true_eq_false, not_false_eq_true, Bool.not_true, Bool.not_false, decide_eq_true_eq, Nat.reduceSub, Nat.reduceAdd, List.append_assoc, tChain, tDIn, tDNotIn, sDDel, tAug, ipI, rInt1_int, rInt1_bl]
        have := q H1 k1
        rw [gs_, hgg] at this
        exact this
      | true =>
        rw [hgg] at gs_
        try simp (maxSteps := 1000000) only [tSeq, tIfS, tTest, tOp, tUn, tCB, tCons, tNil, tVar, tC, rI0, rI, rU, rEq, rNe, tRet, tRetN, tAsg, gName, gSub, tBM, tBM0, tNext, tB, tNot, tAnd, tOr, tIf, tCall, tDrop, tBreak, tCont, L2.start, tDGet, sDPut, tTup, tLst, tDNewK, tRevL, rCat, rAppend, rPop, rSetL, tAndV, tOrV, tNotV, tSl, tPart, tNoPart, tM1, gTup, gCons, gNil, cxK, cxnK, List.map_cons, List.map_nil, List.length_cons, List.length_nil, List.replicate, List.cons_append, List.nil_append, List.append_nil, List.set_cons_zero, List.set_cons_succ, List.getElem?_cons_zero, List.getElem?_cons_succ, Option.some.injEq, V.ref.injEq, V.int.injEq, V.str.injEq, V.bl.injEq, V.ty.injEq, exists_eq_left', exists_eq_left, exists_and_left, List.cons.injEq, and_true, true_and, sc_ii, sc_ss, sc_bb, sc_ni, sc_in, sc_is, sc_si, sc_nn, decide_true, decide_false, reduceCtorEq, Bool.false_eq_true, if_true, if_false, ite_true, ite_false, exists_const, eq_self, false_and, and_false, or_false, false_or, exists_false, Evl.rLenS, rSum, wipe, tYes, exists_eq, exists_eq', rIxL, rIxT, rIxS, exists_and_right, gt_iff_lt, not_true_eq_false, not_false_eq_true, Bool.not_true, Bool.not_false, decide_eq_true_eq, Nat.reduceSub, Nat.reduceAdd, List.append_assoc, tChain, tDIn, tDNotIn, sDDel, tAug, ipI, rInt1_int, rInt1_bl]
        refine lcMapT (R := fun _ v x => v = V.int x) (fun _ _ _ _ _ h => h) (below m) V.bl (fun R h => ⟨_, rfl, h⟩) (sq_t (k1 _ _ not0 hoa)) (rwInts _) (by omega) (by simp) (fun v x H3 Q' hx h3 k3 q' => ?_) fun D3 H3 nD3 hD3 k3 => ?_
        · subst h3
          try simp (maxSteps := 1000000) only [tSeq, tIfS, tTest, tOp, tUn, tCB, tCons, tNil, tVar, tC, rI0, rI, rU, rEq, rNe, tRet, tRetN, tAsg, gName, gSub, tBM, tBM0, tNext, tB, tNot, tAnd, tOr, tIf, tCall, tDrop, tBreak, tCont, L2.start, tDGet, sDPut, tTup, tLst, tDNewK, tRevL, rCat, rAppend, rPop, rSetL, tAndV, tOrV, tNotV, tSl, tPart, tNoPart, tM1, gTup, gCons, gNil, cxK, cxnK, List.map_cons, List.map_nil, List.length_cons, List.length_nil, List.replicate, List.cons_append, List.nil_append, List.append_nil, List.set_cons_zero, List.set_cons_succ, List.getElem?_cons_zero, List.getElem?_cons_succ, Option.some.injEq, V.ref.injEq, V.int.injEq, V.str.injEq, V.bl.injEq, V.ty.injEq, exists_eq_left', exists_eq_left, exists_and_left, List.cons.injEq, and_true, true_and, sc_ii, sc_ss, sc_bb, sc_ni, sc_in, sc_is, sc_si, sc_nn, decide_true, decide_false, reduceCtorEq, Bool.false_eq_true, if_true, if_false, ite_true, ite_false, exists_const, eq_self, false_and, and_false, or_false, false_or, exists_false, Evl.rLenS, rSum, wipe, tYes, exists_eq, exists_eq', rIxL, rIxT, rIxS, exists_and_right, gt_iff_lt, not_true_eq_false, not_false_eq_true, Bool.not_true, Bool.not_false, decide_eq_true_eq, Nat.reduceSub, Nat.reduceAdd, List.append_assoc, tChain, tDIn, tDNotIn, sDDel, tAug, ipI, rInt1_int, rInt1_bl]
          exact ⟨x, m, rfl, q' H3 (Kp.refl _ _)⟩
        refine ⟨D3, os.map (below m), rfl, sq_l (hD3.trans (by rw [List.map_map]; rfl)), ?_⟩
        have eb : (os.map (below m)).all id = os.all (below m) := by rw [List.all_map]; rfl
        rw [eb]
        have := q H3 (k1.trans k3)
        rw [gs_] at this
        exact this
    · rw [if_pos (by simp [hc])]
      have := q H (Kp.refl _ _)
      rw [gs_, decide_eq_false hc] at this
      exact this
end
end My

set_option Elab.async false
set_option linter.all false
set_option maxRecDepth 100000
set_option maxHeartbeats 4000000
namespace My
open PySem L2 NdefX
abbrev s_Chooser_init : Stmt := mtop 11 0
theorem sc_Chooser_init : FnScope ["self", "callers", "states", "at", "state"] ["self", "callers", "states"] (defScope s_Chooser_init) := ⟨rfl, rfl, rfl, by decide +kernel, rfl, by decide +kernel, by decide +kernel⟩
abbrev s_Chooser_len : Stmt := mtop 11 1
theorem sc_Chooser_len : FnScope ["self"] ["self"] (defScope s_Chooser_len) := ⟨rfl, rfl, rfl, by decide +kernel, rfl, by decide +kernel, by decide +kernel⟩
abbrev s_Chooser_call : Stmt := mtop 11 2
theorem sc_Chooser_call : FnScope ["self", "state", "able", "group", "chosen", "caller"] ["self", "state", "able"] (defScope s_Chooser_call) := ⟨rfl, rfl, rfl, by decide +kernel, rfl, by decide +kernel, by decide +kernel⟩
abbrev s_Chooser_after : Stmt := mtop 11 3
theorem sc_Chooser_after : FnScope ["self", "state", "caller"] ["self", "state", "caller"] (defScope s_Chooser_after) := ⟨rfl, rfl, rfl, by decide +kernel, rfl, by decide +kernel, by decide +kernel⟩
abbrev s_Chooser_states : Stmt := mtop 11 4
theorem sc_Chooser_states : FnScope ["self"] ["self"] (defScope s_Chooser_states) := ⟨rfl, rfl, rfl, by decide +kernel, rfl, by decide +kernel, by decide +kernel⟩
abbrev s_Chooser_state : Stmt := mtop 11 5
theorem sc_Chooser_state : FnScope ["self", "at"] ["self", "at"] (defScope s_Chooser_state) := ⟨rfl, rfl, rfl, by decide +kernel, rfl, by decide +kernel, by decide +kernel⟩
structure ChC (K : PySem.W.Frag) (mg : Str → Option Value) (CH : Addr) : Prop where
  k : mg "Chooser" = some (.ref CH)
  cl : Cls K CH
  n1 : NoAttr K CH "callers"
  n2 : NoAttr K CH "_states"
/-- at o a chooser of good states -/
def ChAt (CH : Addr) (H : Hp) (o : Addr) (c : Int) (sts : List Cst) : Prop := ∃ (dx l : Addr) (us : List V), H o = some (.ins CH dx [("callers", .int c), ("_states", .ref l)]) ∧ H l = some (.lst us) ∧ Rw (TSt H) us sts
def GoodC (c : Int) (sts : List Cst) : Prop := 1 ≤ c ∧ c ≤ 3 ∧ 1 ≤ sts.length ∧ sts.length ≤ 12 ∧ ∀ s ∈ sts, goodSt c (sts.length : Nat) s = true
theorem ChAt.kp {CH : Addr} {H H' : Hp} {o : Addr} {c : Int} {sts : List Cst} (h : ChAt CH H o c sts) (k : Kp [] H H') : ChAt CH H' o c sts := by
  obtain ⟨dx, l, us, a, b, r⟩ := h
  exact ⟨dx, l, us, k _ _ not0 a, k _ _ not0 b, r.mono fun _ _ z => z.tp k.tps⟩
def letOf : List (List Int) → List Int → List Int
  | [], _ => []
  | g :: gs, ab => if (ab.filter fun x => decide (x ∈ g)) = [] then letOf gs ab else ab.filter fun x => decide (x ∈ g)
theorem letOf_cons (g : List Int) (gs : List (List Int)) (ab : List Int) : letOf (g :: gs) ab = if (ab.filter fun x => decide (x ∈ g)) = [] then letOf gs ab else ab.filter fun x => decide (x ∈ g) := rfl
theorem letOf_len (ab : List Int) : ∀ gs, (letOf gs ab).length ≤ ab.length
  | [] => Nat.zero_le _
  | g :: gs => by
    unfold letOf
    split
    · exact letOf_len ab gs
    · exact List.length_filter_le _ _
section
variable {P : Program} {w : World} {K : PySem.W.Frag} {mg : Str → Option Value} {base : Heap} {t1 t2 : Tok}
def spLen (CH : Addr) : Sp := fun vs H Q _ => ∃ (o : Addr) (c : Int) (sts : List Cst), vs = [.ref o] ∧ ChAt CH H o c sts ∧ Q (.int (sts.length : Nat)) H
theorem ok_Chooser_len {f : Addr} {fd : FuncData} (F : Fun K "__len__" "Chooser.__len__" s_Chooser_len f fd) (T : Bt mg t1 t2) {CH : Addr} (C : ChC K mg CH) : FnOk P w K mg base CX0 1 f fd ["self"] (spLen CH) := by
  refine F.ok sc_Chooser_len (fun vs H Q E h => ?_) (fun cdv A outer s H vs Q E hr h => ?_)
  · obtain ⟨o, m, first, rfl, _⟩ := h
    rfl
  · obtain ⟨o, c, sts, rfl, ⟨dx, l, us, ho, hl, hus⟩, q⟩ := h
    refine ⟨_, (pss_one (ps_ret (pe_callB (id := "len") (r := Evl.rLenS K) call_len_seq (by rfl) T.b_len PySem.boot_len (pa_cons (pe_fld (pv 0) rfl) pa_nil)))), ?_⟩
    try simp (maxSteps := 1000000) only [tSeq, tIfS, tTest, tOp, tUn, tCB, tCons, tNil, tVar, tC, rI0, rI, rU, rEq, rNe, tRet, tRetN, tAsg, gName, gSub, tBM, tBM0, tNext, tB, tNot, tAnd, tOr, tIf, tCall, tDrop, tBreak, tCont, L2.start, tDGet, sDPut, tTup, tLst, tDNewK, tRevL, rCat, rAppend, rPop, rSetL, tAndV, tOrV, tNotV, tSl, tPart, tNoPart, tM1, gTup, gCons, gNil, cxK, cxnK, List.map_cons, List.map_nil, List.length_cons, List.length_nil, List.replicate, List.cons_append, List.nil_append, List.append_nil, List.set_cons_zero, List.set_cons_succ, List.getElem?_cons_zero, List.getElem?_cons_succ, Option.some.injEq, V.ref.injEq, V.int.injEq, V.str.injEq, V.bl.injEq, V.ty.injEq, exists_eq_left', exists_eq_left, exists_and_left, List.cons.injEq, and_true, true_and, sc_ii, sc_ss, sc_bb, sc_ni, sc_in, sc_is, sc_si, sc_nn, decide_true, decide_false, reduceCtorEq, Bool.false_eq_true, if_true, if_false, ite_true, ite_false, exists_const, eq_self, false_and, and_false, or_false, false_or, exists_false, Evl.rLenS, rSum, wipe, tYes, exists_eq, exists_eq', rIxL, rIxT, rIxS, exists_and_right, gt_iff_lt, not_true_eq_false, not_false_eq_true, Bool.not_true, Bool.not_false, decide_eq_true_eq, Nat.reduceSub, Nat.reduceAdd, List.append_assoc, tChain, tDIn, tDNotIn, sDDel, tAug, ipI, rInt1_int, rInt1_bl, tFld]
    refine ⟨CH, dx, _, ho, C.cl, C.n2, .ref l, rfl, l, rfl, us, .inl (sq_l hl), ?_⟩
    rw [hus.len]
    exact q
def spStates (CH : Addr) : Sp := fun vs H Q _ => ∃ (o : Addr) (c : Int) (sts : List Cst), vs = [.ref o] ∧ ChAt CH H o c sts ∧ ∀ l us H', H l = none → H' l = some (.lst us) → Rw (TSt H') us sts → Kp [] H H' → Q (.ref l) H'
theorem ok_Chooser_states {f : Addr} {fd : FuncData} (F : Fun K "states" "Chooser.states" s_Chooser_states f fd) (T : Bt mg t1 t2) {CH : Addr} (C : ChC K mg CH) : FnOk P w K mg base CX0 1 f fd ["self"] (spStates CH) := by
  refine F.ok sc_Chooser_states (fun vs H Q E h => ?_) (fun cdv A outer s H vs Q E hr h => ?_)
  · obtain ⟨o, m, first, rfl, _⟩ := h
    rfl
  · obtain ⟨o, c, sts, rfl, ⟨dx, l, us, ho, hl, hus⟩, q⟩ := h
    refine ⟨_, (pss_one (ps_ret (pe_callTy call_list_of (by rfl) T.b_list (by decide +kernel) (pa_cons (pe_fld (pv 0) rfl) pa_nil)))), ?_⟩
    try simp (maxSteps := 1000000) only [tSeq, tIfS, tTest, tOp, tUn, tCB, tCons, tNil, tVar, tC, rI0, rI, rU, rEq, rNe, tRet, tRetN, tAsg, gName, gSub, tBM, tBM0, tNext, tB, tNot, tAnd, tOr, tIf, tCall, tDrop, tBreak, tCont, L2.start, tDGet, sDPut, tTup, tLst, tDNewK, tRevL, rCat, rAppend, rPop, rSetL, tAndV, tOrV, tNotV, tSl, tPart, tNoPart, tM1, gTup, gCons, gNil, cxK, cxnK, List.map_cons, List.map_nil, List.length_cons, List.length_nil, List.replicate, List.cons_append, List.nil_append, List.append_nil, List.set_cons_zero, List.set_cons_succ, List.getElem?_cons_zero, List.getElem?_cons_succ, Option.some.injEq, V.ref.injEq, V.int.injEq, V.str.injEq, V.bl.injEq, V.ty.injEq, exists_eq_left', exists_eq_left, exists_and_left, List.cons.injEq, and_true, true_and, sc_ii, sc_ss, sc_bb, sc_ni, sc_in, sc_is, sc_si, sc_nn, decide_true, decide_false, reduceCtorEq, Bool.false_eq_true, if_true, if_false, ite_true, ite_false, exists_const, eq_self, false_and, and_false, or_false, false_or, exists_false, Evl.rLenS, rSum, wipe, tYes, exists_eq, exists_eq', rIxL, rIxT, rIxS, exists_and_right, gt_iff_lt, not_true_eq_false, not_false_eq_true, Bool.not_true, Bool.not_false, decide_eq_true_eq, Nat.reduceSub, Nat.reduceAdd, List.append_assoc, tChain, tDIn, tDNotIn, sDDel, tAug, ipI, rInt1_int, rInt1_bl, tFld]
    refine ⟨CH, dx, _, ho, C.cl, C.n2, .ref l, rfl, l, rfl, us, .inl (sq_l hl), fun p np => ?_⟩
    exact q p us _ np upd_same (hus.mono fun _ _ h => h.tp (Kp.new np).tps) (Kp.new np)
def spState (CH BC : Addr) : Sp := fun vs H Q E => ∃ (o : Addr) (i c : Int) (sts : List Cst), vs = [.ref o, .int i] ∧ ChAt CH H o c sts ∧ (∀ s v, 0 ≤ i → i < sts.length → sts[i.toNat]? = some s → TSt H v s → Q v H) ∧
  (¬ (0 ≤ i ∧ i < sts.length) → ∀ (e : Addr) (H' : Hp), H e = none → H' e = some (.xd [("state", .int i)]) → Kp [] H H' → E (.ref BC) (some e) H')
theorem ok_Chooser_state {f : Addr} {fd : FuncData} (F : Fun K "_state" "Chooser._state" s_Chooser_state f fd) (T : Bt mg t1 t2) {CH BC fB : Addr} {fdB : FuncData} (C : ChC K mg CH) (E_BadChooser : Er1 P w K mg base "BadChooser" "state" BC fB fdB ["self", "state"] (fun _ => True))
    {fl : Addr} {fdl : FuncData} (D_is_below : Df K mg "is_below" s_is_below ["value", "bound"] fl fdl) (G_is_below : FnOk P w K mg base CX0 1 fl fdl ["value", "bound"] spBelow) : FnOk P w K mg base (L2.CX P w) 3 f fd ["self", "at"] (spState CH BC) := by
  refine F.okX sc_Chooser_state (fun vs H Q E h => ?_) (fun cdv A outer s H vs Q E hr h => ?_)
  · obtain ⟨o, m, _, first, rfl, _⟩ := h
    rfl
  · obtain ⟨o, i, c, sts, rfl, ⟨dx, l, us, ho, hl, hus⟩, qG, qB⟩ := h
    refine ⟨_, (pss_cons (ps_if (pt_not (pt_val (pe_call G_is_below (hr.mono (by decide)) rfl D_is_below.g D_is_below.F.kp D_is_below.b .nil pass0 (pa_cons (pv 1) (pa_cons (pe_callB (id := "len") (r := Evl.rLenS K) call_len_seq (by rfl) T.b_len PySem.boot_len (pa_cons (pe_fld (pv 0) rfl) pa_nil)) pa_nil))))) (pss_one (ps_raise rfl (takes_of rfl rfl rfl rfl) (pmk_oex E_BadChooser.ox E_BadChooser.ic E_BadChooser.ti E_BadChooser.G (hr.mono (by decide)) E_BadChooser.b .nil passL rfl E_BadChooser.k (pa_cons (pv 1) pa_nil)))) pss_nil)
      (pss_one (ps_ret (pe_ix (r := rIxL K) ix_list (pe_fld (pv 0) rfl) (pv 1) (fun _ _ => rfl))))), ?_⟩
    try simp (maxSteps := 1000000) only [tSeq, tIfS, tTest, tOp, tUn, tCB, tCons, tNil, tVar, tC, rI0, rI, rU, rEq, rNe, tRet, tRetN, tAsg, gName, gSub, tBM, tBM0, tNext, tB, tNot, tAnd, tOr, tIf, tCall, tDrop, tBreak, tCont, L2.start, tDGet, sDPut, tTup, tLst, tDNewK, tRevL, rCat, rAppend, rPop, rSetL, tAndV, tOrV, tNotV, tSl, tPart, tNoPart, tM1, gTup, gCons, gNil, cxK, cxnK, List.map_cons, List.map_nil, List.length_cons, List.length_nil, List.replicate, List.cons_append, List.nil_append, List.append_nil, List.set_cons_zero, List.set_cons_succ, List.getElem?_cons_zero, List.getElem?_cons_succ, Option.some.injEq, V.ref.injEq, V.int.injEq, V.str.injEq, V.bl.injEq, V.ty.injEq, exists_eq_left', exists_eq_left, exists_and_left, List.cons.injEq, and_true, true_and, sc_ii, sc_ss, sc_bb, sc_ni, sc_in, sc_is, sc_si, sc_nn, decide_true, decide_false, reduceCtorEq, Bool.false_eq_true, if_true, if_false, ite_true, ite_false, exists_const, eq_self, false_and, and_false, or_false, false_or, exists_false, Evl.rLenS, rSum, wipe, tYes, exists_eq, exists_eq', rIxL, rIxT, rIxS, exists_and_right, gt_iff_lt, not_true_eq_false, not_false_eq_true, Bool.not_true, Bool.not_false, decide_eq_true_eq, Nat.reduceSub, Nat.reduceAdd, List.append_assoc, tChain, tDIn, tDNotIn, sDDel, tAug, ipI, rInt1_int, rInt1_bl, tFld]
    refine ⟨CH, dx, _, ho, C.cl, C.n2, .ref l, rfl, l, rfl, us, .inl (sq_l hl), i, _, rfl, ?_⟩
    rw [hus.len]
    by_cases h : 0 ≤ i ∧ i < (sts.length : Nat)
    · have e : below (sts.length : Nat) i = true := by unfold below; rw [decide_eq_true h.1, decide_eq_true h.2]; rfl
      rw [e]
      try simp (maxSteps := 1000000) only [tSeq, tIfS, tTest, tOp, tUn, tCB, tCons, tNil, tVar, tC, rI0, rI, rU, rEq, rNe, tRet, tRetN, tAsg, gName, gSub, tBM, tBM0, tNext, tB, tNot, tAnd, tOr, tIf, tCall, tDrop, tBreak, tCont, L2.start, tDGet, sDPut, tTup, tLst, tDNewK, tRevL, rCat, rAppend, rPop, rSetL, tAndV, tOrV, tNotV, tSl, tPart, tNoPart, tM1, gTup, gCons, gNil, cxK, cxnK, List.map_cons, List.map_nil, List.length_cons, List.length_nil, List.replicate, List.cons_append, List.nil_append, List.append_nil, List.set_cons_zero, List.set_cons_succ, List.getElem?_cons_zero, List.getElem?_cons_succ, Option.some.injEq, V.ref.injEq, V.int.injEq, V.str.injEq, V.bl.injEq, V.ty.injEq, exists_eq_left', exists_eq_left, exists_and_left, List.cons.injEq, and_true, true_and, sc_ii, sc_ss, sc_bb, sc_ni, sc_in, sc_is, sc_si, sc_nn, decide_true, decide_false, reduceCtorEq, Bool.false_eq_true, if_true, if_false, ite_true, ite_false, exists_const, eq_self, false_and, and_false, or_false, false_or, exists_false, Evl.rLenS, rSum, wipe, tYes, exists_eq, exists_eq', rIxL, rIxT, rIxS, exists_and_right, gt_iff_lt, not_true_eq_false, not_false_eq_true, Bool.not_true, Bool.not_false, decide_eq_true_eq, Nat.reduceSub, Nat.reduceAdd, List.append_assoc, tChain, tDIn, tDNotIn, sDDel, tAug, ipI, rInt1_int, rInt1_bl]
      have es : sts[i.toNat]? = some (sts[i.toNat]'(by omega)) := List.getElem?_eq_getElem _
      obtain ⟨u, eu, hu⟩ := hus.at es
      exact ⟨CH, dx, _, ho, C.cl, C.n2, .ref l, rfl, l, rfl, us, sq_l hl, u, atI_of h.1 eu, qG _ u h.1 h.2 es hu⟩
    · have e : below (sts.length : Nat) i = false := by
        unfold below
        by_cases h0 : 0 ≤ i
        · rw [decide_eq_true h0, decide_eq_false (fun z => h ⟨h0, z⟩)]; rfl
        · rw [decide_eq_false h0]; rfl
      rw [e]
      try simp (maxSteps := 1000000) only [tSeq, tIfS, tTest, tOp, tUn, tCB, tCons, tNil, tVar, tC, rI0, rI, rU, rEq, rNe, tRet, tRetN, tAsg, gName, gSub, tBM, tBM0, tNext, tB, tNot, tAnd, tOr, tIf, tCall, tDrop, tBreak, tCont, L2.start, tDGet, sDPut, tTup, tLst, tDNewK, tRevL, rCat, rAppend, rPop, rSetL, tAndV, tOrV, tNotV, tSl, tPart, tNoPart, tM1, gTup, gCons, gNil, cxK, cxnK, List.map_cons, List.map_nil, List.length_cons, List.length_nil, List.replicate, List.cons_append, List.nil_append, List.append_nil, List.set_cons_zero, List.set_cons_succ, List.getElem?_cons_zero, List.getElem?_cons_succ, Option.some.injEq, V.ref.injEq, V.int.injEq, V.str.injEq, V.bl.injEq, V.ty.injEq, exists_eq_left', exists_eq_left, exists_and_left, List.cons.injEq, and_true, true_and, sc_ii, sc_ss, sc_bb, sc_ni, sc_in, sc_is, sc_si, sc_nn, decide_true, decide_false, reduceCtorEq, Bool.false_eq_true, if_true, if_false, ite_true, ite_false, exists_const, eq_self, false_and, and_false, or_false, false_or, exists_false, Evl.rLenS, rSum, wipe, tYes, exists_eq, exists_eq', rIxL, rIxT, rIxS, exists_and_right, gt_iff_lt, not_true_eq_false, not_false_eq_true, Bool.not_true, Bool.not_false, decide_eq_true_eq, Nat.reduceSub, Nat.reduceAdd, List.append_assoc, tChain, tDIn, tDNotIn, sDDel, tAug, ipI, rInt1_int, rInt1_bl]
      exact ⟨_, rfl, err1_made (P := fun _ => True) True.intro fun e H' ne he k => qB h e H' ne he k⟩
def spAfter (CH BC : Addr) : Sp := fun vs H Q E => ∃ (o : Addr) (i j c : Int) (sts : List Cst), vs = [.ref o, .int i, .int j] ∧ ChAt CH H o c sts ∧ (∀ s, 0 ≤ i → i < sts.length → sts[i.toNat]? = some s → 0 ≤ j ∧ j < s.2.length ∧ ∀ r, s.2[j.toNat]? = some r → Q (.int r) H) ∧
  (¬ (0 ≤ i ∧ i < sts.length) → ∀ (e : Addr) (H' : Hp), H e = none → H' e = some (.xd [("state", .int i)]) → Kp [] H H' → E (.ref BC) (some e) H')
theorem ok_Chooser_after {f : Addr} {fd : FuncData} (F : Fun K "after" "Chooser.after" s_Chooser_after f fd) (T : Bt mg t1 t2) {CH BC fS : Addr} {fdS : FuncData} (C : ChC K mg CH)
    (ME_Chooser_state : Meth K CH "_state" fS) (bM_Chooser_state : Binds K fdS ["self", "at"] []) (G_Chooser_state : FnOk P w K mg base (L2.CX P w) 3 fS fdS ["self", "at"] (spState CH BC)) : FnOk P w K mg base (L2.CX P w) 4 f fd ["self", "state", "caller"] (spAfter CH BC) := by
  refine F.okX sc_Chooser_after (fun vs H Q E h => ?_) (fun cdv A outer s H vs Q E hr h => ?_)
  · obtain ⟨o, i, j, c, sts, rfl, _⟩ := h
    rfl
  · obtain ⟨o, i, j, c, sts, rfl, hC, qG, qB⟩ := h
    refine ⟨_, (pss_one (ps_ret (pe_ix (r := rIxT K) ix_tup (pe_ix (r := rIxT K) ix_tup (pe_meth (pv 0) C.cl ME_Chooser_state G_Chooser_state (hr.mono (by decide)) bM_Chooser_state .nil (passes_call (E := E) (takes_of rfl rfl rfl rfl) (fun _ _ _ _ h => h)) (pa_cons (pv 1) pa_nil)) pe_int (fun _ _ => rfl)) (pv 2) (fun _ _ => rfl)))), ?_⟩
    try simp (maxSteps := 1000000) only [tSeq, tIfS, tTest, tOp, tUn, tCB, tCons, tNil, tVar, tC, rI0, rI, rU, rEq, rNe, tRet, tRetN, tAsg, gName, gSub, tBM, tBM0, tNext, tB, tNot, tAnd, tOr, tIf, tCall, tDrop, tBreak, tCont, L2.start, tDGet, sDPut, tTup, tLst, tDNewK, tRevL, rCat, rAppend, rPop, rSetL, tAndV, tOrV, tNotV, tSl, tPart, tNoPart, tM1, gTup, gCons, gNil, cxK, cxnK, List.map_cons, List.map_nil, List.length_cons, List.length_nil, List.replicate, List.cons_append, List.nil_append, List.append_nil, List.set_cons_zero, List.set_cons_succ, List.getElem?_cons_zero, List.getElem?_cons_succ, Option.some.injEq, V.ref.injEq, V.int.injEq, V.str.injEq, V.bl.injEq, V.ty.injEq, exists_eq_left', exists_eq_left, exists_and_left, List.cons.injEq, and_true, true_and, sc_ii, sc_ss, sc_bb, sc_ni, sc_in, sc_is, sc_si, sc_nn, decide_true, decide_false, reduceCtorEq, Bool.false_eq_true, if_true, if_false, ite_true, ite_false, exists_const, eq_self, false_and, and_false, or_false, false_or, exists_false, Evl.rLenS, rSum, wipe, tYes, exists_eq, exists_eq', rIxL, rIxT, rIxS, exists_and_right, gt_iff_lt, not_true_eq_false, not_false_eq_true, Bool.not_true, Bool.not_false, decide_eq_true_eq, Nat.reduceSub, Nat.reduceAdd, List.append_assoc, tChain, tDIn, tDNotIn, sDDel, tAug, ipI, rInt1_int, rInt1_bl, tFld, tMeth]
    obtain ⟨dx, l, us, ho, hl, hus⟩ := hC
    refine ⟨dx, _, ho, rfl, o, i, c, sts, rfl, ⟨dx, l, us, ho, hl, hus⟩, fun s v i0 i1 es hs => ?_, qB⟩
    obtain ⟨a, g, r, rfl, ha, hg, oa, rfl, hoa⟩ := hs
    obtain ⟨j0, j1, q⟩ := qG s i0 i1 es
    have ej : s.2[j.toNat]? = some (s.2[j.toNat]'(by omega)) := List.getElem?_eq_getElem _
    exact ⟨a, rfl, _, sq_t ha, .ref oa, atI_of (by decide) rfl, oa, rfl, _, sq_t hoa, _, atI_of j0 (by rw [List.getElem?_map, ej]; rfl), q _ ej⟩
def spCall (CH BC : Addr) : Sp := fun vs H Q E => ∃ (o : Addr) (i c : Int) (v : V) (ab : List Int) (sts : List Cst), vs = [.ref o, .int i, v] ∧ ChAt CH H o c sts ∧ TI H v ab ∧ ab.length ≤ 1000 ∧ (∀ s, 0 ≤ i → i < sts.length → sts[i.toNat]? = some s → (∀ g ∈ s.1, g.length ≤ 1000) ∧ ∀ r H', TI H' r (letOf s.1 ab) → Kp [] H H' → Q r H') ∧
  (¬ (0 ≤ i ∧ i < sts.length) → ∀ (e : Addr) (H' : Hp), H e = none → H' e = some (.xd [("state", .int i)]) → Kp [] H H' → E (.ref BC) (some e) H')
theorem ok_Chooser_call {f : Addr} {fd : FuncData} (F : Fun K "__call__" "Chooser.__call__" s_Chooser_call f fd) (T : Bt mg t1 t2) {CH BC fS : Addr} {fdS : FuncData} (C : ChC K mg CH)
    (ME_Chooser_state : Meth K CH "_state" fS) (bM_Chooser_state : Binds K fdS ["self", "at"] []) (G_Chooser_state : FnOk P w K mg base (L2.CX P w) 3 fS fdS ["self", "at"] (spState CH BC)) : FnOk P w K mg base (L2.CX P w) 4 f fd ["self", "state", "able"] (spCall CH BC) := by
  refine F.okX sc_Chooser_call (fun vs H Q E h => ?_) (fun cdv A outer s H vs Q E hr h => ?_)
  · obtain ⟨o, i, c, v, ab, sts, rfl, _⟩ := h
    rfl
  · obtain ⟨o, i, c, v, ab, sts, rfl, hC, hv, hab, qG, qB⟩ := h
    refine ⟨_, (pss_cons (ps_for (passes_of rfl) rfl (pi_tup (pe_ix (r := rIxT K) ix_tup (pe_meth (pv 0) C.cl ME_Chooser_state G_Chooser_state (hr.mono (by decide)) bM_Chooser_state .nil (passes_call (E := E) (takes_of rfl rfl rfl rfl) (fun _ _ _ _ h => h)) (pa_cons (pv 1) pa_nil)) pe_int (fun _ _ => rfl))) (pg_name (i := 3) sc_Chooser_call.nd rfl (Or.inr rfl)) (pss_cons (ps_set (i := 4) sc_Chooser_call.nd rfl (Or.inl rfl) (pe_callTy call_tuple_of (by rfl) T.b_tuple (by decide +kernel) (pa_cons (pe_lc (own := [("caller", 5)]) (g := (gName 5)) rfl sc_Chooser_call.nd (pi_tup (pv 2)) (blkOk_by (N := ["self", "state", "able", "group", "chosen", "caller"]) (sc := defScope s_Chooser_call) (by decide +kernel)) (fun _ _ _ _ _ => (pg_name (i := 5) sc_Chooser_call.nd rfl (Or.inl rfl))) (fun _ _ _ _ _ => (pts_one (pt_cmpR (r := rIn K false) op_in_seq (pv 5) (pv 3) (by rfl)))) (fun _ _ _ _ _ => (pv 5))) pa_nil)))
      (pss_one (ps_if (pt_truth (pv 4) (by intro _; rfl)) (pss_one (ps_ret (pv 4))) pss_nil))))
      (pss_one (ps_ret (pe_tup pa_nil)))), ?_⟩
    try simp (maxSteps := 1000000) only [tSeq, tIfS, tTest, tOp, tUn, tCB, tCons, tNil, tVar, tC, rI0, rI, rU, rEq, rNe, tRet, tRetN, tAsg, gName, gSub, tBM, tBM0, tNext, tB, tNot, tAnd, tOr, tIf, tCall, tDrop, tBreak, tCont, L2.start, tDGet, sDPut, tTup, tLst, tDNewK, tRevL, rCat, rAppend, rPop, rSetL, tAndV, tOrV, tNotV, tSl, tPart, tNoPart, tM1, gTup, gCons, gNil, cxK, cxnK, List.map_cons, List.map_nil, List.length_cons, List.length_nil, List.replicate, List.cons_append, List.nil_append, List.append_nil, List.set_cons_zero, List.set_cons_succ, List.getElem?_cons_zero, List.getElem?_cons_succ, Option.some.injEq, V.ref.injEq, V.int.injEq, V.str.injEq, V.bl.injEq, V.ty.injEq, exists_eq_left', exists_eq_left, exists_and_left, List.cons.injEq, and_true, true_and, sc_ii, sc_ss, sc_bb, sc_ni, sc_in, sc_is, sc_si, sc_nn, decide_true, decide_false, reduceCtorEq, Bool.false_eq_true, if_true, if_false, ite_true, ite_false, exists_const, eq_self, false_and, and_false, or_false, false_or, exists_false, Evl.rLenS, rSum, wipe, tYes, exists_eq, exists_eq', rIxL, rIxT, rIxS, exists_and_right, gt_iff_lt, not_true_eq_false, not_false_eq_true, Bool.not_true, Bool.not_false, decide_eq_true_eq, Nat.reduceSub, Nat.reduceAdd, List.append_assoc, tChain, tDIn, tDNotIn, sDDel, tAug, ipI, rInt1_int, rInt1_bl, tFld, tMeth]
    obtain ⟨dx, l, us, ho, hl, hus⟩ := hC
    refine ⟨_, rfl, o, dx, _, rfl, ho, rfl, _, rfl, o, i, c, sts, rfl, ⟨dx, l, us, ho, hl, hus⟩, fun s v i0 i1 es hs => ?_, qB⟩
    obtain ⟨a, g, r, rfl, ha, ⟨ga, gus, rfl, hga, hgs⟩, oa, rfl, hoa⟩ := hs
    obtain ⟨av, rfl, hav⟩ := hv
    refine ⟨a, _, 0, .ref ga, rfl, rfl, sq_t ha, atI_of (by decide) rfl, ga, rfl, ⟨_, sq_t hga⟩, ?_⟩
    obtain ⟨gz, qR⟩ := qG s i0 i1 es
    refine for_tup (K := K) (a := ga) (xs := gus) (fun j σ H' => ∃ c3 c4, σ = [some (V.ref o), some (V.int i), some (V.ref av), c3, c4, none] ∧ Kp [] H H' ∧ letOf (s.1.drop j) ab = letOf s.1 ab) ⟨none, none, rfl, Kp.refl _ _, rfl⟩ (fun j σ H' _ h => by obtain ⟨_, _, _, k, _⟩ := h; exact k.tp not0 (sq_t hga)) (fun j x σ H' hx h => ?_) fun σ H' h => ?_
    · obtain ⟨c3, c4, rfl, k, hj⟩ := h
      obtain ⟨g, eg, b, rfl, hb⟩ := hgs.get hx
      have hb' := k _ _ not0 hb
      have gl := gz g (List.mem_of_getElem? eg)
      have dr : s.1.drop j = g :: s.1.drop (j + 1) := (List.drop_eq_getElem_cons (List.getElem?_eq_some_iff.mp eg).1).trans (by rw [(List.getElem?_eq_some_iff.mp eg).2])
      try simp (maxSteps := 1000000) only [tSeq, tIfS, tTest, tOp, tUn, tCB, tCons, tNil, tVar, tC, rI0, rI, rU, rEq, rNe, tRet, tRetN, tAsg, gName, gSub, tBM, tBM0, tNext, tB, tNot, tAnd, tOr, tIf, tCall, tDrop, tBreak, tCont, L2.start, tDGet, sDPut, tTup, tLst, tDNewK, tRevL, rCat, rAppend, rPop, rSetL, tAndV, tOrV, tNotV, tSl, tPart, tNoPart, tM1, gTup, gCons, gNil, cxK, cxnK, List.map_cons, List.map_nil, List.length_cons, List.length_nil, List.replicate, List.cons_append, List.nil_append, List.append_nil, List.set_cons_zero, List.set_cons_succ, List.getElem?_cons_zero, List.getElem?_cons_succ, Option.some.injEq, V.ref.injEq, V.int.injEq, V.str.injEq, V.bl.injEq, V.ty.injEq, exists_eq_left', exists_eq_left, exists_and_left, List.cons.injEq, and_true, true_and, sc_ii, sc_ss, sc_bb, sc_ni, sc_in, sc_is, sc_si, sc_nn, decide_true, decide_false, reduceCtorEq, Bool.false_eq_true, if_true, if_false, ite_true, ite_false, exists_const, eq_self, false_and, and_false, or_false, false_or, exists_false, Evl.rLenS, rSum, wipe, tYes, exists_eq, exists_eq', rIxL, rIxT, rIxS, exists_and_right, gt_iff_lt, not_true_eq_false, not_false_eq_true, Bool.not_true, Bool.not_false, decide_eq_true_eq, Nat.reduceSub, Nat.reduceAdd, List.append_assoc, tChain, tDIn, tDNotIn, sDDel, tAug, ipI, rInt1_int, rInt1_bl]
      refine lcFilt (xs := ab) (a := av) (fun x => decide (x ∈ g)) (fun R h => ⟨_, rfl, h⟩) (sq_t (k _ _ not0 hav)) hab (by simp) (fun x H2 R hx2 k2 hR => ?_) (fun x H2 R hR => ⟨_, rfl, hR⟩) fun D H2 nD hD k2 => ?_
      · try simp (maxSteps := 1000000) only [tSeq, tIfS, tTest, tOp, tUn, tCB, tCons, tNil, tVar, tC, rI0, rI, rU, rEq, rNe, tRet, tRetN, tAsg, gName, gSub, tBM, tBM0, tNext, tB, tNot, tAnd, tOr, tIf, tCall, tDrop, tBreak, tCont, L2.start, tDGet, sDPut, tTup, tLst, tDNewK, tRevL, rCat, rAppend, rPop, rSetL, tAndV, tOrV, tNotV, tSl, tPart, tNoPart, tM1, gTup, gCons, gNil, cxK, cxnK, List.map_cons, List.map_nil, List.length_cons, List.length_nil, List.replicate, List.cons_append, List.nil_append, List.append_nil, List.set_cons_zero, List.set_cons_succ, List.getElem?_cons_zero, List.getElem?_cons_succ, Option.some.injEq, V.ref.injEq, V.int.injEq, V.str.injEq, V.bl.injEq, V.ty.injEq, exists_eq_left', exists_eq_left, exists_and_left, List.cons.injEq, and_true, true_and, sc_ii, sc_ss, sc_bb, sc_ni, sc_in, sc_is, sc_si, sc_nn, decide_true, decide_false, reduceCtorEq, Bool.false_eq_true, if_true, if_false, ite_true, ite_false, exists_const, eq_self, false_and, and_false, or_false, false_or, exists_false, Evl.rLenS, rSum, wipe, tYes, exists_eq, exists_eq', rIxL, rIxT, rIxS, exists_and_right, gt_iff_lt, not_true_eq_false, not_false_eq_true, Bool.not_true, Bool.not_false, decide_eq_true_eq, Nat.reduceSub, Nat.reduceAdd, List.append_assoc, tChain, tDIn, tDNotIn, sDDel, tAug, ipI, rInt1_int, rInt1_bl, tTest, rIn]
        refine ⟨_, .inr (sq_t (k2 _ _ not0 hb')), rfl, flat_ints g, ?_⟩
        rw [inV_int]
        exact hR
      · have kk := k.trans k2
        refine ⟨D, rfl, _, .inl ⟨sq_l hD, fun t nt => ?_⟩⟩
        refine ⟨!((ab.filter fun x => decide (x ∈ g)).map V.int).isEmpty, .inr (.inl ⟨_, sq_t upd_same, rfl⟩), ?_⟩
        have lz := letOf_len ab (s.1.drop j)
        rw [dr] at lz hj
        rw [letOf_cons] at hj
        cases he : ab.filter fun x => decide (x ∈ g) with
        | nil =>
          rw [he, if_pos rfl] at hj
          exact ⟨kk.trans (Kp.new nt), hj⟩
        | cons x0 r0 =>
          rw [he, if_neg (by simp)] at hj
          refine qR _ _ ⟨t, rfl, ?_⟩ (kk.trans (Kp.new nt))
          rw [upd_same, ← hj]
    · obtain ⟨c3, c4, rfl, k, hj⟩ := h
      refine ⟨Nat.zero_le _, fun t nt => qR _ _ ⟨t, rfl, ?_⟩ (k.trans (Kp.new nt))⟩
      rw [hgs.len, List.drop_length] at hj
      rw [upd_same, ← hj]; rfl
end
end My

set_option Elab.async false
set_option linter.all false
set_option maxRecDepth 100000
set_option maxHeartbeats 4000000
namespace My
open PySem L2 NdefX
def spInit (CH BN TL BC : Addr) : Sp := fun vs H Q E => ∃ (o dx l : Addr) (c : Int) (us : List V) (sts : List Cst), vs = [.ref o, .int c, .ref l] ∧ H o = some (.ins CH dx []) ∧ H l = some (.lst us) ∧ Rw (TSt H) us sts ∧ sts.length ≤ 100 ∧ (∀ s ∈ sts, SzSt s) ∧
  (GoodC c sts → ∀ l' H', H l' = none → H' o = some (.ins CH dx [("callers", .int c), ("_states", .ref l')]) → H' l' = some (.lst us) → Rw (TSt H') us sts → Kp [o] H H' → Q .non H') ∧
  (¬ (1 ≤ c ∧ c ≤ 3) → ∀ (e : Addr) (H' : Hp), H e = none → H' e = some (.xd [("number", .int c)]) → Kp [] H H' → E (.ref BN) (some e) H') ∧
  (1 ≤ c → c ≤ 3 → ¬ (1 ≤ sts.length ∧ sts.length ≤ 12) → ∀ (e : Addr) (H' : Hp), H e = none → H' e = some (.xd [("bound", .int 12)]) → Kp [] H H' → E (.ref TL) (some e) H') ∧
  (∀ i s, 1 ≤ c → c ≤ 3 → 1 ≤ sts.length → sts.length ≤ 12 → sts[i]? = some s → goodSt c (sts.length : Nat) s = false → (∀ j y, j < i → sts[j]? = some y → goodSt c (sts.length : Nat) y = true) → ∀ (e : Addr) (H' : Hp), H e = none → H' e = some (.xd [("state", .int (i : Nat))]) → Kp [] H H' → E (.ref BC) (some e) H')
section
variable {P : Program} {w : World} {K : PySem.W.Frag} {mg : Str → Option Value} {base : Heap} {t1 t2 : Tok}
theorem ok_Chooser_init {f : Addr} {fd : FuncData} (F : Fun K "__init__" "Chooser.__init__" s_Chooser_init f fd) (T : Bt mg t1 t2) {CH BN TL BC fT fC : Addr} {fdT fdC : FuncData} (C : ChC K mg CH) (E_TooLarge : Er1 P w K mg base "TooLarge" "bound" TL fT fdT ["self", "bound"] SmallI) (E_BadChooser : Er1 P w K mg base "BadChooser" "state" BC fC fdC ["self", "state"] (fun _ => True))
    {fc : Addr} {fdc : FuncData} (D_check_callers : Df K mg "check_callers" s_check_callers ["callers"] fc fdc) (G_check_callers : FnOk P w K mg base (L2.CX P w) 3 fc fdc ["callers"] (spCC BN))
    {fs : Addr} {fds : FuncData} (D_is_state : Df K mg "is_state" s_is_state ["state", "callers", "many"] fs fds) (G_is_state : FnOk P w K mg base CX0 3 fs fds ["state", "callers", "many"] spIsSt) : FnOk P w K mg base (L2.CX P w) 4 f fd ["self", "callers", "states"] (spInit CH BN TL BC) := by
  refine F.okX sc_Chooser_init (fun vs H Q E h => ?_) (fun cdv A outer s H vs Q E hr h => ?_)
  · obtain ⟨o, dx, l, c, us, sts, rfl, _⟩ := h
    rfl
  · obtain ⟨o, dx, l, c, us, sts, rfl, ho, hl, hus, sl, sz, qG, qN, qL, qC⟩ := h
    refine ⟨_, (pss_cons (ps_expr (pe_call G_check_callers (hr.mono (by decide)) rfl D_check_callers.g D_check_callers.F.kp D_check_callers.b .nil (passes_call (E := E) (takes_of rfl rfl rfl rfl) (fun _ _ _ _ h => h)) (pa_cons (pv 1) pa_nil)))
      (pss_cons (ps_if (pt_not (pt_chain op_le op_le pe_int (pe_callB (id := "len") (r := Evl.rLenS K) call_len_seq (by rfl) T.b_len PySem.boot_len (pa_cons (pv 2) pa_nil)) (pe_glob (v := .int 12) rfl T.c_MOST_STATES ⟨_, rfl⟩))) (pss_one (ps_raise rfl (takes_of rfl rfl rfl rfl) (pmk_oex E_TooLarge.ox E_TooLarge.ic E_TooLarge.ti E_TooLarge.G (hr.mono (by decide)) E_TooLarge.b .nil passL rfl E_TooLarge.k (pa_cons (pe_glob (v := .int 12) rfl T.c_MOST_STATES ⟨_, rfl⟩) pa_nil)))) pss_nil)
      (pss_cons (ps_for (passes_of rfl) rfl (pi_enum rfl T.b_enumerate (pa_cons (pv 2) pa_nil)) (pg_tup (n := 2) (by rfl) (pgs_cons (pg_name (i := 3) sc_Chooser_init.nd rfl (Or.inl rfl)) (pgs_cons (pg_name (i := 4) sc_Chooser_init.nd rfl (Or.inl rfl)) pgs_nil))) (pss_one (ps_if (pt_not (pt_val (pe_call G_is_state (hr.mono (by decide)) rfl D_is_state.g D_is_state.F.kp D_is_state.b .nil pass0 (pa_cons (pv 4) (pa_cons (pv 1) (pa_cons (pe_callB (id := "len") (r := Evl.rLenS K) call_len_seq (by rfl) T.b_len PySem.boot_len (pa_cons (pv 2) pa_nil)) pa_nil)))))) (pss_one (ps_raise rfl (takes_of rfl rfl rfl rfl) (pmk_oex E_BadChooser.ox E_BadChooser.ic E_BadChooser.ti E_BadChooser.G (hr.mono (by decide)) E_BadChooser.b .nil passL rfl E_BadChooser.k (pa_cons (pv 3) pa_nil)))) pss_nil)))
      (pss_cons (ps_fld (pv 0) (pv 1) rfl)
      (pss_one (ps_fld (pv 0) (pe_callTy call_list_of (by rfl) T.b_list (by decide +kernel) (pa_cons (pv 2) pa_nil)) rfl)))))), ?_⟩
    try simp (maxSteps := 1000000) only [tSeq, tIfS, tTest, tOp, tUn, tCB, tCons, tNil, tVar, tC, rI0, rI, rU, rEq, rNe, tRet, tRetN, tAsg, gName, gSub, tBM, tBM0, tNext, tB, tNot, tAnd, tOr, tIf, tCall, tDrop, tBreak, tCont, L2.start, tDGet, sDPut, tTup, tLst, tDNewK, tRevL, rCat, rAppend, rPop, rSetL, tAndV, tOrV, tNotV, tSl, tPart, tNoPart, tM1, gTup, gCons, gNil, cxK, cxnK, List.map_cons, List.map_nil, List.length_cons, List.length_nil, List.replicate, List.cons_append, List.nil_append, List.append_nil, List.set_cons_zero, List.set_cons_succ, List.getElem?_cons_zero, List.getElem?_cons_succ, Option.some.injEq, V.ref.injEq, V.int.injEq, V.str.injEq, V.bl.injEq, V.ty.injEq, exists_eq_left', exists_eq_left, exists_and_left, List.cons.injEq, and_true, true_and, sc_ii, sc_ss, sc_bb, sc_ni, sc_in, sc_is, sc_si, sc_nn, decide_true, decide_false, reduceCtorEq, Bool.false_eq_true, if_true, if_false, ite_true, ite_false, exists_const, eq_self, false_and, and_false, or_false, false_or, exists_false, Evl.rLenS, rSum, wipe, tYes, exists_eq, exists_eq', rIxL, rIxT, rIxS, exists_and_right, gt_iff_lt, not_true_eq_false, not_false_eq_true, Bool.not_true, Bool.not_false, decide_eq_true_eq, Nat.reduceSub, Nat.reduceAdd, List.append_assoc, tChain, tDIn, tDNotIn, sDDel, tAug, ipI, rInt1_int, rInt1_bl, tFld, sFld]
    refine ⟨c, rfl, fun c1 c3 => ?_, qN⟩
    refine ⟨us, .inl (sq_l hl), ?_⟩
    rw [hus.len]
    have errL : ¬ (1 ≤ sts.length ∧ sts.length ≤ 12) → ([V.int 12] : List V).length ≤ 1000 ∧ ∀ a, H a = none → spErr1 TL "bound" SmallI (.ref a :: ([V.int 12] ++ [])) (upd H a (exo a TL none)) (fun v H2 => v = .non ∧ ∃ (d : Addr) (fs : List (Str × V)), H2 a = some (exo a TL (some d)) ∧ H2 d = some (exd d fs) ∧ H d = none ∧ E (.ref TL) (some d) (upd (del H2 a) d (.xd fs))) (fun _ _ _ => False) := fun h =>
      err1_made (P := SmallI) ⟨12, rfl, by decide, by decide⟩ fun e H' ne he k => qL c1 c3 h e H' ne he k
    by_cases h1 : 1 ≤ sts.length
    · rw [if_pos (by omega)]
      by_cases h2 : sts.length ≤ 12
      · rw [decide_eq_true (show ((sts.length : Nat) : Int) ≤ 12 by omega)]
        try simp (maxSteps := 1000000) only [tSeq, tIfS, tTest, tOp, tUn, tCB, tCons, tNil, tVar, tC, rI0, rI, rU, rEq, rNe, tRet, tRetN, tAsg, gName, gSub, tBM, tBM0, tNext, tB, tNot, tAnd, tOr, tIf, tCall, tDrop, tBreak, tCont, L2.start, tDGet, sDPut, tTup, tLst, tDNewK, tRevL, rCat, rAppend, rPop, rSetL, tAndV, tOrV, tNotV, tSl, tPart, tNoPart, tM1, gTup, gCons, gNil, cxK, cxnK, List.map_cons, List.map_nil, List.length_cons, List.length_nil, List.replicate, List.cons_append, List.nil_append, List.append_nil, List.set_cons_zero, List.set_cons_succ, List.getElem?_cons_zero, List.getElem?_cons_succ, Option.some.injEq, V.ref.injEq, V.int.injEq, V.str.injEq, V.bl.injEq, V.ty.injEq, exists_eq_left', exists_eq_left, exists_and_left, List.cons.injEq, and_true, true_and, sc_ii, sc_ss, sc_bb, sc_ni, sc_in, sc_is, sc_si, sc_nn, decide_true, decide_false, reduceCtorEq, Bool.false_eq_true, if_true, if_false, ite_true, ite_false, exists_const, eq_self, false_and, and_false, or_false, false_or, exists_false, Evl.rLenS, rSum, wipe, tYes, exists_eq, exists_eq', rIxL, rIxT, rIxS, exists_and_right, gt_iff_lt, not_true_eq_false, not_false_eq_true, Bool.not_true, Bool.not_false, decide_eq_true_eq, Nat.reduceSub, Nat.reduceAdd, List.append_assoc, tChain, tDIn, tDNotIn, sDDel, tAug, ipI, rInt1_int, rInt1_bl]
        refine ⟨.ref l, rfl, l, us, rfl, sq_l hl, ?_⟩
        refine for_it (walk_enum (K := K) (a := l) (xs := us)) (fun i σ H' => ∃ c3 c4, σ = [some (V.ref o), some (V.int c), some (V.ref l), c3, c4] ∧ Kp [] H H' ∧ ∀ j y, j < i → sts[j]? = some y → goodSt c (sts.length : Nat) y = true) ⟨none, none, rfl, Kp.refl _ _, fun j y hj => absurd hj (Nat.not_lt_zero j)⟩ (fun i σ H' _ h => by obtain ⟨_, _, _, k, _⟩ := h; exact k.ls not0 (sq_l hl)) ?_ ?_
        · rintro i x σ H2 H3 hi ⟨e1, e2, rfl, kp, hg⟩ ⟨t, u, v, rfl, nt, rfl, ea, eb⟩
          cases ea
          obtain ⟨st, es, hst⟩ := hus.get eb
          have k2 : Kp [] H2 (upd H2 t (.tup [.int (i : Nat), v])) := Kp.new nt
          have k02 := kp.trans k2
          try simp (maxSteps := 1000000) only [tSeq, tIfS, tTest, tOp, tUn, tCB, tCons, tNil, tVar, tC, rI0, rI, rU, rEq, rNe, tRet, tRetN, tAsg, gName, gSub, tBM, tBM0, tNext, tB, tNot, tAnd, tOr, tIf, tCall, tDrop, tBreak, tCont, L2.start, tDGet, sDPut, tTup, tLst, tDNewK, tRevL, rCat, rAppend, rPop, rSetL, tAndV, tOrV, tNotV, tSl, tPart, tNoPart, tM1, gTup, gCons, gNil, cxK, cxnK, List.map_cons, List.map_nil, List.length_cons, List.length_nil, List.replicate, List.cons_append, List.nil_append, List.append_nil, List.set_cons_zero, List.set_cons_succ, List.getElem?_cons_zero, List.getElem?_cons_succ, Option.some.injEq, V.ref.injEq, V.int.injEq, V.str.injEq, V.bl.injEq, V.ty.injEq, exists_eq_left', exists_eq_left, exists_and_left, List.cons.injEq, and_true, true_and, sc_ii, sc_ss, sc_bb, sc_ni, sc_in, sc_is, sc_si, sc_nn, decide_true, decide_false, reduceCtorEq, Bool.false_eq_true, if_true, if_false, ite_true, ite_false, exists_const, eq_self, false_and, and_false, or_false, false_or, exists_false, Evl.rLenS, rSum, wipe, tYes, exists_eq, exists_eq', rIxL, rIxT, rIxS, exists_and_right, gt_iff_lt, not_true_eq_false, not_false_eq_true, Bool.not_true, Bool.not_false, decide_eq_true_eq, Nat.reduceSub, Nat.reduceAdd, List.append_assoc, tChain, tDIn, tDNotIn, sDDel, tAug, ipI, rInt1_int, rInt1_bl]
          refine ⟨_, sq_t upd_same, rfl, _, _, rfl, _, _, rfl, rfl, ?_⟩
          refine ⟨us, .inl (k02.ls not0 (sq_l hl)), v, c, (sts.length : Nat), st, by rw [hus.len], hst.tp k02.tps, c1, c3, sz st (List.mem_of_getElem? es), fun H4 k4 => ?_⟩
          cases hgd : goodSt c (sts.length : Nat) st with
          | false =>
            try simp (maxSteps := 1000000) only [tSeq, tIfS, tTest, tOp, tUn, tCB, tCons, tNil, tVar, tC, rI0, rI, rU, rEq, rNe, tRet, tRetN, tAsg, gName, gSub, tBM, tBM0, tNext, tB, tNot, tAnd, tOr, tIf, tCall, tDrop, tBreak, tCont, L2.start, tDGet, sDPut, tTup, tLst, tDNewK, tRevL, rCat, rAppend, rPop, rSetL, tAndV, tOrV, tNotV, tSl, tPart, tNoPart, tM1, gTup, gCons, gNil, cxK, cxnK, List.map_cons, List.map_nil, List.length_cons, List.length_nil, List.replicate, List.cons_append, List.nil_append, List.append_nil, List.set_cons_zero, List.set_cons_succ, List.getElem?_cons_zero, List.getElem?_cons_succ, Option.some.injEq, V.ref.injEq, V.int.injEq, V.str.injEq, V.bl.injEq, V.ty.injEq, exists_eq_left', exists_eq_left, exists_and_left, List.cons.injEq, and_true, true_and, sc_ii, sc_ss, sc_bb, sc_ni, sc_in, sc_is, sc_si, sc_nn, decide_true, decide_false, reduceCtorEq, Bool.false_eq_true, if_true, if_false, ite_true, ite_false, exists_const, eq_self, false_and, and_false, or_false, false_or, exists_false, Evl.rLenS, rSum, wipe, tYes, exists_eq, exists_eq', rIxL, rIxT, rIxS, exists_and_right, gt_iff_lt, not_true_eq_false, not_false_eq_true, Bool.not_true, Bool.not_false, decide_eq_true_eq, Nat.reduceSub, Nat.reduceAdd, List.append_assoc, tChain, tDIn, tDNotIn, sDDel, tAug, ipI, rInt1_int, rInt1_bl]
            exact ⟨_, rfl, err1_made (P := fun _ => True) True.intro fun e H' ne he k => qC i st c1 c3 h1 h2 es hgd hg e H' ((k02.trans k4).free0 ne) he ((k02.trans k4).trans k)⟩
          | true =>
            try simp (maxSteps := 1000000) only [tSeq, tIfS, tTest, tOp, tUn, tCB, tCons, tNil, tVar, tC, rI0, rI, rU, rEq, rNe, tRet, tRetN, tAsg, gName, gSub, tBM, tBM0, tNext, tB, tNot, tAnd, tOr, tIf, tCall, tDrop, tBreak, tCont, L2.start, tDGet, sDPut, tTup, tLst, tDNewK, tRevL, rCat, rAppend, rPop, rSetL, tAndV, tOrV, tNotV, tSl, tPart, tNoPart, tM1, gTup, gCons, gNil, cxK, cxnK, List.map_cons, List.map_nil, List.length_cons, List.length_nil, List.replicate, List.cons_append, List.nil_append, List.append_nil, List.set_cons_zero, List.set_cons_succ, List.getElem?_cons_zero, List.getElem?_cons_succ, Option.some.injEq, V.ref.injEq, V.int.injEq, V.str.injEq, V.bl.injEq, V.ty.injEq, exists_eq_left', exists_eq_left, exists_and_left, List.cons.injEq, and_true, true_and, sc_ii, sc_ss, sc_bb, sc_ni, sc_in, sc_is, sc_si, sc_nn, decide_true, decide_false, reduceCtorEq, Bool.false_eq_true, if_true, if_false, ite_true, ite_false, exists_const, eq_self, false_and, and_false, or_false, false_or, exists_false, Evl.rLenS, rSum, wipe, tYes, exists_eq, exists_eq', rIxL, rIxT, rIxS, exists_and_right, gt_iff_lt, not_true_eq_false, not_false_eq_true, Bool.not_true, Bool.not_false, decide_eq_true_eq, Nat.reduceSub, Nat.reduceAdd, List.append_assoc, tChain, tDIn, tDNotIn, sDDel, tAug, ipI, rInt1_int, rInt1_bl]
            refine ⟨k02.trans k4, fun j y hj ej => ?_⟩
            by_cases z : j = i
            · subst z; rw [es] at ej; cases ej; exact hgd
            · exact hg j y (by omega) ej
        · rintro σ H2 ⟨e1, e2, rfl, kp, hg⟩
          rw [hus.len] at hg
          try simp (maxSteps := 1000000) only [tSeq, tIfS, tTest, tOp, tUn, tCB, tCons, tNil, tVar, tC, rI0, rI, rU, rEq, rNe, tRet, tRetN, tAsg, gName, gSub, tBM, tBM0, tNext, tB, tNot, tAnd, tOr, tIf, tCall, tDrop, tBreak, tCont, L2.start, tDGet, sDPut, tTup, tLst, tDNewK, tRevL, rCat, rAppend, rPop, rSetL, tAndV, tOrV, tNotV, tSl, tPart, tNoPart, tM1, gTup, gCons, gNil, cxK, cxnK, List.map_cons, List.map_nil, List.length_cons, List.length_nil, List.replicate, List.cons_append, List.nil_append, List.append_nil, List.set_cons_zero, List.set_cons_succ, List.getElem?_cons_zero, List.getElem?_cons_succ, Option.some.injEq, V.ref.injEq, V.int.injEq, V.str.injEq, V.bl.injEq, V.ty.injEq, exists_eq_left', exists_eq_left, exists_and_left, List.cons.injEq, and_true, true_and, sc_ii, sc_ss, sc_bb, sc_ni, sc_in, sc_is, sc_si, sc_nn, decide_true, decide_false, reduceCtorEq, Bool.false_eq_true, if_true, if_false, ite_true, ite_false, exists_const, eq_self, false_and, and_false, or_false, false_or, exists_false, Evl.rLenS, rSum, wipe, tYes, exists_eq, exists_eq', rIxL, rIxT, rIxS, exists_and_right, gt_iff_lt, not_true_eq_false, not_false_eq_true, Bool.not_true, Bool.not_false, decide_eq_true_eq, Nat.reduceSub, Nat.reduceAdd, List.append_assoc, tChain, tDIn, tDNotIn, sDDel, tAug, ipI, rInt1_int, rInt1_bl, sFld, tFld]
          have ho2 := kp _ _ not0 ho
          have hl2 := kp _ _ not0 hl
          have ol : o ≠ l := fun z => by rw [z, hl] at ho; cases ho
          refine ⟨CH, dx, _, ho2, C.cl, C.n1, by decide, us, .inl (sq_l (by rw [upd_ne (Ne.symm ol)]; exact hl2)), fun p np => ?_⟩
          have po : p ≠ o := fun z => by rw [z, upd_same] at np; cases np
          have np2 : H2 p = none := by rw [upd_ne po] at np; exact np
          refine ⟨CH, dx, putF "callers" (.int c) [], by rw [upd_ne (Ne.symm po), upd_same], C.cl, C.n2, (show (1 : Nat) < 1000 by decide), ?_⟩
          have tp : Tp H2 (upd (upd (upd H2 o (.ins CH dx (putF "callers" (.int c) []))) p (.lst us)) o (.ins CH dx (putF "_states" (.ref p) (putF "callers" (.int c) [])))) := by
            refine Tp.putI (C := CH) (dx := dx) (fs := putF "callers" (.int c) []) (((Tp.refl H2).putI ho2).new np) ?_
            rw [upd_ne (Ne.symm po), upd_same]
          refine qG ⟨c1, c3, h1, h2, fun s hs => ?_⟩ p _ (kp.free0 np2) (by rw [upd_same]; rfl) (by rw [upd_ne po, upd_same]) (hus.mono fun _ _ h => (h.tp kp.tps).tp tp) ?_
          · obtain ⟨j, ej⟩ := List.getElem?_of_mem hs
            exact hg j s (List.getElem?_eq_some_iff.mp ej).1 ej
          · exact kp.of0.trans ((((Kp.refl [o] H2).put (by simp)).trans (Kp.new np)).put (by simp))
      · rw [decide_eq_false (show ¬ ((sts.length : Nat) : Int) ≤ 12 by omega)]
        try simp (maxSteps := 1000000) only [tSeq, tIfS, tTest, tOp, tUn, tCB, tCons, tNil, tVar, tC, rI0, rI, rU, rEq, rNe, tRet, tRetN, tAsg, gName, gSub, tBM, tBM0, tNext, tB, tNot, tAnd, tOr, tIf, tCall, tDrop, tBreak, tCont, L2.start, tDGet, sDPut, tTup, tLst, tDNewK, tRevL, rCat, rAppend, rPop, rSetL, tAndV, tOrV, tNotV, tSl, tPart, tNoPart, tM1, gTup, gCons, gNil, cxK, cxnK, List.map_cons, List.map_nil, List.length_cons, List.length_nil, List.replicate, List.cons_append, List.nil_append, List.append_nil, List.set_cons_zero, List.set_cons_succ, List.getElem?_cons_zero, List.getElem?_cons_succ, Option.some.injEq, V.ref.injEq, V.int.injEq, V.str.injEq, V.bl.injEq, V.ty.injEq, exists_eq_left', exists_eq_left, exists_and_left, List.cons.injEq, and_true, true_and, sc_ii, sc_ss, sc_bb, sc_ni, sc_in, sc_is, sc_si, sc_nn, decide_true, decide_false, reduceCtorEq, Bool.false_eq_true, if_true, if_false, ite_true, ite_false, exists_const, eq_self, false_and, and_false, or_false, false_or, exists_false, Evl.rLenS, rSum, wipe, tYes, exists_eq, exists_eq', rIxL, rIxT, rIxS, exists_and_right, gt_iff_lt, not_true_eq_false, not_false_eq_true, Bool.not_true, Bool.not_false, decide_eq_true_eq, Nat.reduceSub, Nat.reduceAdd, List.append_assoc, tChain, tDIn, tDNotIn, sDDel, tAug, ipI, rInt1_int, rInt1_bl]
        exact errL (fun h => h2 h.2)
    · rw [if_neg (by omega)]
      exact errL (fun h => h1 h.1)
/-- a new chooser of good states -/
theorem ch_made {CH BN TL BC : Addr} {H : Hp} {Q : VK} {E : XK} {x dx l : Addr} {c : Int} {us : List V} {sts : List Cst} (nx : H x = none) (ndx : H dx = none) (ne : dx ≠ x) (hl : H l = some (.lst us)) (hr : Rw (TSt H) us sts) (g : GoodC c sts) (sz : ∀ s ∈ sts, SzSt s)
    (q : ∀ l' H', H l' = none → H' x = some (.ins CH dx [("callers", .int c), ("_states", .ref l')]) → H' l' = some (.lst us) → Rw (TSt H') us sts → Kp [] H H' → Q (.ref x) H') :
    spInit CH BN TL BC (.ref x :: ([.int c, .ref l] ++ [])) (upd (upd H dx (.own x)) x (.ins CH dx [])) (fun v H2 => v = .non ∧ Q (.ref x) H2) E := by
  have k : Kp [] H (upd (upd H dx (.own x)) x (.ins CH dx [])) := (Kp.new ndx).wr nx
  refine ⟨x, dx, l, c, us, sts, rfl, upd_same, k _ _ not0 hl, hr.mono fun _ _ h => h.tp k.tps, by have := g.2.2.2.1; omega, sz, fun _ l' H' nl h1 h2 h3 h4 => ⟨rfl, ?_⟩, fun h => absurd ⟨g.1, g.2.1⟩ h, fun _ _ h => absurd ⟨g.2.2.1, g.2.2.2.1⟩ h, fun i s _ _ _ _ es hb => ?_⟩
  · refine q l' H' (k.free0 nl) h1 h2 h3 fun b o _ hb => ?_
    exact h4 b o (not1 fun z => by rw [z, nx] at hb; cases hb) (k b o not0 hb)
  · rw [g.2.2.2.2 s (List.mem_of_getElem? es)] at hb; cases hb
end
end My

set_option Elab.async false
set_option linter.all false
set_option maxRecDepth 100000
set_option maxHeartbeats 4000000
namespace My
open PySem L2 NdefX StX
abbrev s_Chooser_free : Stmt := mtop 11 6
theorem sc_Chooser_free : FnScope ["callers", "_"] ["callers"] (defScope s_Chooser_free) := ⟨rfl, rfl, rfl, by decide +kernel, rfl, by decide +kernel, by decide +kernel⟩
abbrev s_Chooser_ranked : Stmt := mtop 11 7
theorem sc_Chooser_ranked : FnScope ["callers", "caller", "_"] ["callers"] (defScope s_Chooser_ranked) := ⟨rfl, rfl, rfl, by decide +kernel, rfl, by decide +kernel, by decide +kernel⟩
abbrev s_lets : Stmt := top 15
theorem sc_lets : FnScope ["chooser", "row", "state", "able", "caller"] ["chooser", "row"] (defScope s_lets) := ⟨rfl, rfl, rfl, by decide +kernel, rfl, by decide +kernel, by decide +kernel⟩
/-! ### the usual choosers -/
def zerosI (c : Int) : List Int := (List.range c.toNat).map fun _ => 0
def nextI (c : Int) : List Int := (List.range c.toNat).map fun k => (((k : Nat) : Int) + 1) % c
def onesI (c : Int) : List (List Int) := (List.range c.toNat).map fun k => [((k : Nat) : Int)]
def ringI (c : Int) (f : Nat) : List (List Int) := (List.range c.toNat).map fun k => [(((f : Nat) : Int) + (k : Nat)) % c]
def usualC (which : Int) (c : Int) : List Cst :=
  if which = 0 then [([rgI c], zerosI c)] else if which = 1 then [(onesI c, zerosI c)] else (List.range c.toNat).map fun f => (ringI c f, nextI c)
theorem three {c : Int} {p : Int → Prop} (c1 : 1 ≤ c) (c3 : c ≤ 3) (h1 : p 1) (h2 : p 2) (h3 : p 3) : p c := by
  rcases (show c = 1 ∨ c = 2 ∨ c = 3 by omega) with rfl | rfl | rfl <;> assumption
theorem usual_good {c which : Int} (c1 : 1 ≤ c) (c3 : c ≤ 3) : GoodC c (usualC which c) ∧ ∀ s ∈ usualC which c, SzSt s := by
  by_cases w0 : which = 0
  · subst w0
    rcases (show c = 1 ∨ c = 2 ∨ c = 3 by omega) with rfl | rfl | rfl <;> exact ⟨⟨by decide, by decide, by decide, by decide, by decide⟩, by unfold SzSt; decide⟩
  · by_cases w1 : which = 1
    · subst w1
      rcases (show c = 1 ∨ c = 2 ∨ c = 3 by omega) with rfl | rfl | rfl <;> exact ⟨⟨by decide, by decide, by decide, by decide, by decide⟩, by unfold SzSt; decide⟩
    · have e : ∀ c, usualC which c = usualC 2 c := fun c => by unfold usualC; rw [if_neg w0, if_neg w1]; rfl
      rw [e]
      rcases (show c = 1 ∨ c = 2 ∨ c = 3 by omega) with rfl | rfl | rfl <;> exact ⟨⟨by decide, by decide, by decide, by decide, by decide⟩, by unfold SzSt; decide⟩
theorem rng_map {α : Type} (c : Int) (f : Nat → α) : (rgI c).map (fun x => f x.toNat) = (List.range c.toNat).map f := by
  unfold rgI
  rw [List.map_map]; rfl
theorem _root_.L2.FnOk.toR {P : Program} {w : World} {K : PySem.W.Frag} {mg : Str → Option Value} {base : Heap} {CX : CXT} {k : Nat} {f : Addr} {fd : FuncData} {ps : List Str} {sp : Sp} (F : FnOk P w K mg base CX k f fd ps sp) (hb : Binds K fd ps []) : FnR P w K mg base CX k f sp :=
  fun A outer s H us vs Q E hr e0 r h => by
    have KX : K.In s.heap := e0.mod.kin.keeps fun b o e => (e0.bs b o e).1
    have hl : us.length = ps.length := by rw [← r.length]; exact F.len _ _ _ _ h
    have z := hb s us KX (by rw [List.append_nil]; exact hl)
    rw [List.append_nil] at z
    exact F.run A outer s H ⟨us, []⟩ us vs Q E hr e0 z r h
theorem TGs.make {H : Hp} {s : Addr} {us : List V} {gs : List (List Int)} (hr : Rw (TI H) us gs) (ns : H s = none) : TGs (upd H s (.tup us)) (.ref s) gs := ⟨s, us, rfl, upd_same, hr.mono fun _ _ h => h.tp (Kp.new ns).tps⟩
theorem TSt.make {H : Hp} {s : Addr} {vg vo : V} {gs : List (List Int)} {os : List Int} (hg : TGs H vg gs) (ho : TI H vo os) (ns : H s = none) : TSt (upd H s (.tup [vg, vo])) (.ref s) (gs, os) := ⟨s, vg, vo, rfl, upd_same, hg.tp (Kp.new ns).tps, ho.tp (Kp.new ns).tps⟩
theorem ch_one {CH BN TL BC : Addr} {H : Hp} {Q : VK} {E : XK} {c : Int} {v : V} {s : Cst} (hs : TSt H v s) (g : GoodC c [s]) (sz : SzSt s) (q : ∀ x H', ChAt CH H' x c [s] → Kp [] H H' → Q (.ref x) H') :
    1 ≤ sizeLine ∧ ∀ p, H p = none → ∀ x dx, (upd H p (.lst [v])) x = none → (upd H p (.lst [v])) dx = none → dx ≠ x → spInit CH BN TL BC [.ref x, .int c, .ref p] (upd (upd (upd H p (.lst [v])) dx (.own x)) x (.ins CH dx [])) (fun v H2 => v = .non ∧ Q (.ref x) H2) E := by
  refine ⟨small (by decide), fun p np x dx nx ndx ne => ?_⟩
  have k : Kp [] H (upd H p (.lst [v])) := Kp.new np
  exact ch_made nx ndx ne upd_same (Rw.cons (hs.tp k.tps) .nil) g (fun s' h => by rw [List.mem_singleton.mp h]; exact sz) fun l' H' _ h1 h2 h3 h4 => q x H' ⟨dx, l', _, h1, h2, h3⟩ (k.trans h4)
/-! ### rows of (able callers, caller) -/
abbrev Pr := List Int × Int
def PrAt (H : Hp) (v : V) (p : Pr) : Prop := ∃ a w, v = .ref a ∧ H a = some (.tup [w, .int p.2]) ∧ TI H w p.1
theorem PrAt.tp {H H' : Hp} {v : V} {p : Pr} (h : PrAt H v p) (t : Tp H H') : PrAt H' v p := by
  obtain ⟨a, w, e, h, r⟩ := h
  exact ⟨a, w, e, t _ _ h, r.tp t⟩
def stOf (sts : List Cst) (s : Int) : Cst := sts.getD s.toNat ([], [])
def nxt (sts : List Cst) (s k : Int) : Int := (stOf sts s).2.getD k.toNat 0
def letsC (sts : List Cst) : Int → List Pr → Bool
  | _, [] => true
  | s, p :: r => decide (p.2 ∈ letOf (stOf sts s).1 p.1) && letsC sts (nxt sts s p.2) r
theorem good_parts {c m : Int} {s : Cst} (h : goodSt c m s = true) (c3 : c ≤ 1000) : (s.2.length : Int) = c ∧ (∀ g ∈ s.1, g.length ≤ 1000 ∧ 0 < g.length) ∧ (∀ r ∈ s.2, 0 ≤ r ∧ r < m) ∧ s.1.flatten.Perm (rgI c) := by
  unfold goodSt goodGs at h
  simp only [Bool.and_eq_true, decide_eq_true_eq, List.all_eq_true, List.isPerm_iff] at h
  obtain ⟨h1, ⟨h2, h3, h4⟩, h5⟩ := h
  refine ⟨h1, fun g hg => ⟨?_, h2 g hg⟩, fun r hr => ?_, h4⟩
  · have l4 := h4.length_eq
    unfold rgI at l4
    rw [List.length_map, List.length_range] at l4
    have : g.length ≤ s.1.flatten.length := (List.sublist_flatten_of_mem hg).length_le
    omega
  · have := h5 r hr
    unfold below at this
    rw [Bool.and_eq_true, decide_eq_true_eq, decide_eq_true_eq] at this
    exact this
theorem GoodC.st {c : Int} {sts : List Cst} (h : GoodC c sts) {s : Int} (s0 : 0 ≤ s) (s1 : s < sts.length) : sts[s.toNat]? = some (stOf sts s) ∧ goodSt c (sts.length : Nat) (stOf sts s) = true := by
  have e : sts[s.toNat]? = some (sts[s.toNat]'(by omega)) := List.getElem?_eq_getElem _
  have e2 : stOf sts s = sts[s.toNat]'(by omega) := by unfold stOf; rw [List.getD_eq_getElem?_getD, e]; rfl
  rw [e2]
  exact ⟨e, h.2.2.2.2 _ (List.getElem_mem _)⟩
theorem GoodC.nx {c : Int} {sts : List Cst} (h : GoodC c sts) {s k : Int} (s0 : 0 ≤ s) (s1 : s < sts.length) (k0 : 0 ≤ k) (k1 : k < c) : (stOf sts s).2[k.toNat]? = some (nxt sts s k) ∧ 0 ≤ nxt sts s k ∧ nxt sts s k < sts.length := by
  obtain ⟨p1, _, p3, _⟩ := good_parts (h.st s0 s1).2 (by have := h.2.1; omega)
  have e : (stOf sts s).2[k.toNat]? = some ((stOf sts s).2[k.toNat]'(by omega)) := List.getElem?_eq_getElem _
  have e2 : nxt sts s k = (stOf sts s).2[k.toNat]'(by omega) := by unfold nxt; rw [List.getD_eq_getElem?_getD, e]; rfl
  rw [e2]
  exact ⟨e, p3 _ (List.getElem_mem _)⟩
section
variable {P : Program} {w : World} {K : PySem.W.Frag} {mg : Str → Option Value} {base : Heap} {t1 t2 : Tok}
def spStat (CH BN : Addr) (which : Int) : Sp := fun vs H Q E => ∃ (c : Int), vs = [.int c] ∧ (1 ≤ c → c ≤ 3 → ∀ x H', ChAt CH H' x c (usualC which c) → Kp [] H H' → Q (.ref x) H') ∧
  (¬ (1 ≤ c ∧ c ≤ 3) → ∀ (e : Addr) (H' : Hp), H e = none → H' e = some (.xd [("number", .int c)]) → Kp [] H H' → E (.ref BN) (some e) H')
theorem ok_Chooser_free {f : Addr} {fd : FuncData} (F : Fun K "free" "Chooser.free" s_Chooser_free f fd) (T : Bt mg t1 t2) {CH BN TL BC : Addr} (C : ChC K mg CH)
    {fc : Addr} {fdc : FuncData} (D_check_callers : Df K mg "check_callers" s_check_callers ["callers"] fc fdc) (G_check_callers : FnOk P w K mg base (L2.CX P w) 3 fc fdc ["callers"] (spCC BN))
    {fI : Addr} {fdI : FuncData} (M_Chooser : Mk K CH fI) (bI_Chooser : Binds K fdI ["self", "callers", "states"] []) (G_Chooser_init : FnOk P w K mg base (L2.CX P w) 4 fI fdI ["self", "callers", "states"] (spInit CH BN TL BC)) : FnOk P w K mg base (L2.CX P w) 6 f fd ["callers"] (spStat CH BN 0) := by
  refine F.okX sc_Chooser_free (fun vs H Q E h => ?_) (fun cdv A outer s H vs Q E hr h => ?_)
  · obtain ⟨c, rfl, _⟩ := h
    rfl
  · obtain ⟨c, rfl, qG, qN⟩ := h
    refine ⟨_, (pss_cons (ps_expr (pe_call G_check_callers (hr.mono (by decide)) rfl D_check_callers.g D_check_callers.F.kp D_check_callers.b .nil (passes_call (E := E) (takes_of rfl rfl rfl rfl) (fun _ _ _ _ h => h)) (pa_cons (pv 0) pa_nil)))
      (pss_one (ps_ret (pe_make M_Chooser G_Chooser_init (hr.mono (by decide)) rfl C.k bI_Chooser .nil (passes_call (E := E) (takes_of rfl rfl rfl rfl) (fun _ _ _ _ h => h)) (pa_cons (pv 0) (pa_cons (pe_lst (pa_cons (pe_tup (pa_cons (pe_tup (pa_cons (pe_tupRg rfl (by rfl) T.b_tuple (prg_1 (by rfl) T.b_range (pv 0))) pa_nil)) (pa_cons (pe_callTy call_tuple_of (by rfl) T.b_tuple (by decide +kernel) (pa_cons (pe_lc (own := [("_", 1)]) (g := (gName 1)) (tt := tYes) rfl sc_Chooser_free.nd (pi_range1 rfl T.b_range (pa_cons (pv 0) pa_nil)) (blkOk_by (N := ["callers", "_"]) (sc := defScope s_Chooser_free) (by decide +kernel)) (fun _ _ _ _ _ => (pg_name (i := 1) sc_Chooser_free.nd rfl (Or.inl rfl))) (fun _ _ _ _ _ => pts_nil) (fun _ _ _ _ _ => pe_int)) pa_nil)) pa_nil))) pa_nil)) pa_nil)))))), ?_⟩
    try simp (maxSteps := 1000000) only [tSeq, tIfS, tTest, tOp, tUn, tCB, tCons, tNil, tVar, tC, rI0, rI, rU, rEq, rNe, tRet, tRetN, tAsg, gName, gSub, tBM, tBM0, tNext, tB, tNot, tAnd, tOr, tIf, tCall, tDrop, tBreak, tCont, L2.start, tDGet, sDPut, tTup, tLst, tDNewK, tRevL, rCat, rAppend, rPop, rSetL, tAndV, tOrV, tNotV, tSl, tPart, tNoPart, tM1, gTup, gCons, gNil, cxK, cxnK, List.map_cons, List.map_nil, List.length_cons, List.length_nil, List.replicate, List.cons_append, List.nil_append, List.append_nil, List.set_cons_zero, List.set_cons_succ, List.getElem?_cons_zero, List.getElem?_cons_succ, Option.some.injEq, V.ref.injEq, V.int.injEq, V.str.injEq, V.bl.injEq, V.ty.injEq, exists_eq_left', exists_eq_left, exists_and_left, List.cons.injEq, and_true, true_and, sc_ii, sc_ss, sc_bb, sc_ni, sc_in, sc_is, sc_si, sc_nn, decide_true, decide_false, reduceCtorEq, Bool.false_eq_true, if_true, if_false, ite_true, ite_false, exists_const, eq_self, false_and, and_false, or_false, false_or, exists_false, Evl.rLenS, rSum, wipe, tYes, exists_eq, exists_eq', rIxL, rIxT, rIxS, exists_and_right, gt_iff_lt, not_true_eq_false, not_false_eq_true, Bool.not_true, Bool.not_false, decide_eq_true_eq, Nat.reduceSub, Nat.reduceAdd, List.append_assoc, tChain, tDIn, tDNotIn, sDDel, tAug, ipI, rInt1_int, rInt1_bl]
    refine ⟨c, rfl, fun c1 c3 => ?_, qN⟩
    try simp (maxSteps := 1000000) only [tSeq, tIfS, tTest, tOp, tUn, tCB, tCons, tNil, tVar, tC, rI0, rI, rU, rEq, rNe, tRet, tRetN, tAsg, gName, gSub, tBM, tBM0, tNext, tB, tNot, tAnd, tOr, tIf, tCall, tDrop, tBreak, tCont, L2.start, tDGet, sDPut, tTup, tLst, tDNewK, tRevL, rCat, rAppend, rPop, rSetL, tAndV, tOrV, tNotV, tSl, tPart, tNoPart, tM1, gTup, gCons, gNil, cxK, cxnK, List.map_cons, List.map_nil, List.length_cons, List.length_nil, List.replicate, List.cons_append, List.nil_append, List.append_nil, List.set_cons_zero, List.set_cons_succ, List.getElem?_cons_zero, List.getElem?_cons_succ, Option.some.injEq, V.ref.injEq, V.int.injEq, V.str.injEq, V.bl.injEq, V.ty.injEq, exists_eq_left', exists_eq_left, exists_and_left, List.cons.injEq, and_true, true_and, sc_ii, sc_ss, sc_bb, sc_ni, sc_in, sc_is, sc_si, sc_nn, decide_true, decide_false, reduceCtorEq, Bool.false_eq_true, if_true, if_false, ite_true, ite_false, exists_const, eq_self, false_and, and_false, or_false, false_or, exists_false, Evl.rLenS, rSum, wipe, tYes, exists_eq, exists_eq', rIxL, rIxT, rIxS, exists_and_right, gt_iff_lt, not_true_eq_false, not_false_eq_true, Bool.not_true, Bool.not_false, decide_eq_true_eq, Nat.reduceSub, Nat.reduceAdd, List.append_assoc, tChain, tDIn, tDNotIn, sDDel, tAug, ipI, rInt1_int, rInt1_bl, tMake, tTupRg, tRg1]
    obtain ⟨n, rfl⟩ : ∃ n : Nat, c = n := ⟨c.toNat, by omega⟩
    have ug := usual_good (which := 0) c1 c3
    refine ⟨RgOk.of_le (by omega) (by omega) (by omega) (by omega), fun g ng => ?_⟩
    refine ⟨small (by decide), fun p np => ?_⟩
    rw [rgV0] at np ⊢
    have k0 : Kp [] H (upd (upd H g (.tup ((rgI n).map V.int))) p (.tup [.ref g])) := (Kp.new ng).trans (Kp.new np)
    have hg0 : TGs (upd (upd H g (.tup ((rgI n).map V.int))) p (.tup [.ref g])) (.ref p) [rgI n] := TGs.make (.cons TI.make .nil) np
    generalize (upd (upd H g (.tup ((rgI n).map V.int))) p (.tup [.ref g])) = H1 at k0 hg0 ⊢
    refine lcRgF n (by omega) (fun _ v (x : Int) => v = .int x) (fun _ => 0) (fun _ _ _ _ _ h => h) (by simp) (fun R h => ⟨_, rfl, h⟩) (fun i H' Q' hi k q' => q' _ H' rfl (Kp.refl _ _)) fun z us H2 nz hz hr2 k2 => ?_
    have eu := rwInts_eq hr2
    refine ⟨z, rfl, us, .inl ⟨sq_l hz, fun t nt => ⟨small (by decide), fun s ns => ?_⟩⟩⟩
    have k3 : Kp [] H2 (upd H2 t (.tup us)) := Kp.new nt
    have ho : TI (upd H2 t (.tup us)) (.ref t) (zerosI n) := ⟨t, rfl, by rw [upd_same, eu]; rfl⟩
    have k4 := (k0.trans k2).trans (k3.trans (Kp.new ns (o := .tup [.ref p, .ref t])))
    exact ch_one (TSt.make (hg0.tp (k2.trans k3).tps) ho ns) ug.1 (ug.2 _ List.mem_cons_self) fun x H' hC k5 => qG c1 c3 x H' hC (k4.trans k5)
theorem ok_Chooser_ranked {f : Addr} {fd : FuncData} (F : Fun K "ranked" "Chooser.ranked" s_Chooser_ranked f fd) (T : Bt mg t1 t2) {CH BN TL BC : Addr} (C : ChC K mg CH)
    {fc : Addr} {fdc : FuncData} (D_check_callers : Df K mg "check_callers" s_check_callers ["callers"] fc fdc) (G_check_callers : FnOk P w K mg base (L2.CX P w) 3 fc fdc ["callers"] (spCC BN))
    {fI : Addr} {fdI : FuncData} (M_Chooser : Mk K CH fI) (bI_Chooser : Binds K fdI ["self", "callers", "states"] []) (G_Chooser_init : FnOk P w K mg base (L2.CX P w) 4 fI fdI ["self", "callers", "states"] (spInit CH BN TL BC)) : FnOk P w K mg base (L2.CX P w) 6 f fd ["callers"] (spStat CH BN 1) := by
  refine F.okX sc_Chooser_ranked (fun vs H Q E h => ?_) (fun cdv A outer s H vs Q E hr h => ?_)
  · obtain ⟨c, rfl, _⟩ := h
    rfl
  · obtain ⟨c, rfl, qG, qN⟩ := h
    refine ⟨_, (pss_cons (ps_expr (pe_call G_check_callers (hr.mono (by decide)) rfl D_check_callers.g D_check_callers.F.kp D_check_callers.b .nil (passes_call (E := E) (takes_of rfl rfl rfl rfl) (fun _ _ _ _ h => h)) (pa_cons (pv 0) pa_nil)))
      (pss_one (ps_ret (pe_make M_Chooser G_Chooser_init (hr.mono (by decide)) rfl C.k bI_Chooser .nil (passes_call (E := E) (takes_of rfl rfl rfl rfl) (fun _ _ _ _ h => h)) (pa_cons (pv 0) (pa_cons (pe_lst (pa_cons (pe_tup (pa_cons (pe_callTy call_tuple_of (by rfl) T.b_tuple (by decide +kernel) (pa_cons (pe_lc (own := [("caller", 1)]) (g := (gName 1)) (tt := tYes) rfl sc_Chooser_ranked.nd (pi_range1 rfl T.b_range (pa_cons (pv 0) pa_nil)) (blkOk_by (N := ["callers", "caller", "_"]) (sc := defScope s_Chooser_ranked) (by decide +kernel)) (fun _ _ _ _ _ => (pg_name (i := 1) sc_Chooser_ranked.nd rfl (Or.inl rfl))) (fun _ _ _ _ _ => pts_nil) (fun _ _ _ _ _ => (pe_tup (pa_cons (pv 1) pa_nil)))) pa_nil)) (pa_cons (pe_callTy call_tuple_of (by rfl) T.b_tuple (by decide +kernel) (pa_cons (pe_lc (own := [("_", 2)]) (g := (gName 2)) (tt := tYes) rfl sc_Chooser_ranked.nd (pi_range1 rfl T.b_range (pa_cons (pv 0) pa_nil)) (blkOk_by (N := ["callers", "caller", "_"]) (sc := defScope s_Chooser_ranked) (by decide +kernel)) (fun _ _ _ _ _ => (pg_name (i := 2) sc_Chooser_ranked.nd rfl (Or.inl rfl))) (fun _ _ _ _ _ => pts_nil) (fun _ _ _ _ _ => pe_int)) pa_nil)) pa_nil))) pa_nil)) pa_nil)))))), ?_⟩
    try simp (maxSteps := 1000000) only [tSeq, tIfS, tTest, tOp, tUn, tCB, tCons, tNil, tVar, tC, rI0, rI, rU, rEq, rNe, tRet, tRetN, tAsg, gName, gSub, tBM, tBM0, tNext, tB, tNot, tAnd, tOr, tIf, tCall, tDrop, tBreak, tCont, L2.start, tDGet, sDPut, tTup, tLst, tDNewK, tRevL, rCat, rAppend, rPop, rSetL, tAndV, tOrV, tNotV, tSl, tPart, tNoPart, tM1, gTup, gCons, gNil, cxK, cxnK, List.map_cons, List.map_nil, List.length_cons, List.length_nil, List.replicate, List.cons_append, List.nil_append, List.append_nil, List.set_cons_zero, List.set_cons_succ, List.getElem?_cons_zero, List.getElem?_cons_succ, Option.some.injEq, V.ref.injEq, V.int.injEq, V.str.injEq, V.bl.injEq, V.ty.injEq, exists_eq_left', exists_eq_left, exists_and_left, List.cons.injEq, and_true, true_and, sc_ii, sc_ss, sc_bb, sc_ni, sc_in, sc_is, sc_si, sc_nn, decide_true, decide_false, reduceCtorEq, Bool.false_eq_true, if_true, if_false, ite_true, ite_false, exists_const, eq_self, false_and, and_false, or_false, false_or, exists_false, Evl.rLenS, rSum, wipe, tYes, exists_eq, exists_eq', rIxL, rIxT, rIxS, exists_and_right, gt_iff_lt, not_true_eq_false, not_false_eq_true, Bool.not_true, Bool.not_false, decide_eq_true_eq, Nat.reduceSub, Nat.reduceAdd, List.append_assoc, tChain, tDIn, tDNotIn, sDDel, tAug, ipI, rInt1_int, rInt1_bl]
    refine ⟨c, rfl, fun c1 c3 => ?_, qN⟩
    try simp (maxSteps := 1000000) only [tSeq, tIfS, tTest, tOp, tUn, tCB, tCons, tNil, tVar, tC, rI0, rI, rU, rEq, rNe, tRet, tRetN, tAsg, gName, gSub, tBM, tBM0, tNext, tB, tNot, tAnd, tOr, tIf, tCall, tDrop, tBreak, tCont, L2.start, tDGet, sDPut, tTup, tLst, tDNewK, tRevL, rCat, rAppend, rPop, rSetL, tAndV, tOrV, tNotV, tSl, tPart, tNoPart, tM1, gTup, gCons, gNil, cxK, cxnK, List.map_cons, List.map_nil, List.length_cons, List.length_nil, List.replicate, List.cons_append, List.nil_append, List.append_nil, List.set_cons_zero, List.set_cons_succ, List.getElem?_cons_zero, List.getElem?_cons_succ, Option.some.injEq, V.ref.injEq, V.int.injEq, V.str.injEq, V.bl.injEq, V.ty.injEq, exists_eq_left', exists_eq_left, exists_and_left, List.cons.injEq, and_true, true_and, sc_ii, sc_ss, sc_bb, sc_ni, sc_in, sc_is, sc_si, sc_nn, decide_true, decide_false, reduceCtorEq, Bool.false_eq_true, if_true, if_false, ite_true, ite_false, exists_const, eq_self, false_and, and_false, or_false, false_or, exists_false, Evl.rLenS, rSum, wipe, tYes, exists_eq, exists_eq', rIxL, rIxT, rIxS, exists_and_right, gt_iff_lt, not_true_eq_false, not_false_eq_true, Bool.not_true, Bool.not_false, decide_eq_true_eq, Nat.reduceSub, Nat.reduceAdd, List.append_assoc, tChain, tDIn, tDNotIn, sDDel, tAug, ipI, rInt1_int, rInt1_bl, tMake]
    obtain ⟨n, rfl⟩ : ∃ n : Nat, c = n := ⟨c.toNat, by omega⟩
    have ug := usual_good (which := 1) c1 c3
    refine lcRgF n (by omega) TI (fun k => [((k : Nat) : Int)]) (fun _ _ _ _ t h => h.tp t) (by simp) (fun R h => ⟨_, rfl, h⟩) (fun i H' Q' hi k q' => ?_) fun z us H1 nz hz hr1 k1 => ?_
    · try simp (maxSteps := 1000000) only [tSeq, tIfS, tTest, tOp, tUn, tCB, tCons, tNil, tVar, tC, rI0, rI, rU, rEq, rNe, tRet, tRetN, tAsg, gName, gSub, tBM, tBM0, tNext, tB, tNot, tAnd, tOr, tIf, tCall, tDrop, tBreak, tCont, L2.start, tDGet, sDPut, tTup, tLst, tDNewK, tRevL, rCat, rAppend, rPop, rSetL, tAndV, tOrV, tNotV, tSl, tPart, tNoPart, tM1, gTup, gCons, gNil, cxK, cxnK, List.map_cons, List.map_nil, List.length_cons, List.length_nil, List.replicate, List.cons_append, List.nil_append, List.append_nil, List.set_cons_zero, List.set_cons_succ, List.getElem?_cons_zero, List.getElem?_cons_succ, Option.some.injEq, V.ref.injEq, V.int.injEq, V.str.injEq, V.bl.injEq, V.ty.injEq, exists_eq_left', exists_eq_left, exists_and_left, List.cons.injEq, and_true, true_and, sc_ii, sc_ss, sc_bb, sc_ni, sc_in, sc_is, sc_si, sc_nn, decide_true, decide_false, reduceCtorEq, Bool.false_eq_true, if_true, if_false, ite_true, ite_false, exists_const, eq_self, false_and, and_false, or_false, false_or, exists_false, Evl.rLenS, rSum, wipe, tYes, exists_eq, exists_eq', rIxL, rIxT, rIxS, exists_and_right, gt_iff_lt, not_true_eq_false, not_false_eq_true, Bool.not_true, Bool.not_false, decide_eq_true_eq, Nat.reduceSub, Nat.reduceAdd, List.append_assoc, tChain, tDIn, tDNotIn, sDDel, tAug, ipI, rInt1_int, rInt1_bl]
      refine ⟨small (by decide), fun p np => q' _ _ ⟨p, rfl, upd_same⟩ (Kp.new np)⟩
    refine ⟨z, rfl, us, .inl ⟨sq_l hz, fun p np => ?_⟩⟩
    have hg0 : TGs (upd H1 p (.tup us)) (.ref p) (onesI n) := TGs.make (by unfold onesI; exact hr1) np
    have k0 : Kp [] H (upd H1 p (.tup us)) := k1.trans (Kp.new np)
    generalize (upd H1 p (.tup us)) = H1 at k0 hg0 ⊢
    refine lcRgF n (by omega) (fun _ v (x : Int) => v = .int x) (fun _ => 0) (fun _ _ _ _ _ h => h) (by simp) (fun R h => ⟨_, rfl, h⟩) (fun i H' Q' hi k q' => q' _ H' rfl (Kp.refl _ _)) fun z us H2 nz hz hr2 k2 => ?_
    have eu := rwInts_eq hr2
    refine ⟨z, rfl, us, .inl ⟨sq_l hz, fun t nt => ⟨small (by decide), fun s ns => ?_⟩⟩⟩
    have k3 : Kp [] H2 (upd H2 t (.tup us)) := Kp.new nt
    have ho : TI (upd H2 t (.tup us)) (.ref t) (zerosI n) := ⟨t, rfl, by rw [upd_same, eu]; rfl⟩
    have k4 := (k0.trans k2).trans (k3.trans (Kp.new ns (o := .tup [.ref p, .ref t])))
    exact ch_one (TSt.make (hg0.tp (k2.trans k3).tps) ho ns) ug.1 (ug.2 _ List.mem_cons_self) fun x H' hC k5 => qG c1 c3 x H' hC (k4.trans k5)
def spLets (CH : Addr) : Sp := fun vs H Q _ => ∃ (o l : Addr) (c : Int) (us : List V) (sts : List Cst) (prs : List Pr), vs = [.ref o, .ref l] ∧ ChAt CH H o c sts ∧ GoodC c sts ∧ H l = some (.lst us) ∧ Rw (PrAt H) us prs ∧ (∀ p ∈ prs, p.1.length ≤ 1000 ∧ 0 ≤ p.2 ∧ p.2 < c) ∧ ∀ H', Kp [] H H' → Q (.bl (letsC sts 0 prs)) H'
theorem ok_lets {f : Addr} {fd : FuncData} (D : Df K mg "lets" s_lets ["chooser", "row"] f fd) (T : Bt mg t1 t2) {CH BC fO fA : Addr} {fdO fdA : FuncData} (C : ChC K mg CH) (CO_Chooser : CallO K CH fO) (bO : Binds K fdO ["self", "state", "able"] []) (G_Chooser_call0 : FnOk P w K mg base (L2.CX P w) 4 fO fdO ["self", "state", "able"] (spCall CH BC))
    (ME_Chooser_after : Meth K CH "after" fA) (bM_Chooser_after : Binds K fdA ["self", "state", "caller"] []) (G_Chooser_after : FnOk P w K mg base (L2.CX P w) 4 fA fdA ["self", "state", "caller"] (spAfter CH BC)) : FnOk P w K mg base CX0 5 f fd ["chooser", "row"] (spLets CH) := by
  refine D.F.ok sc_lets (fun vs H Q E h => ?_) (fun cdv A outer s H vs Q E hr h => ?_)
  · obtain ⟨_, _, _, _, _, _, rfl, _⟩ := h
    rfl
  · obtain ⟨o, l, c, us, sts, prs, rfl, hC, hG, hl, hus, hp, q⟩ := h
    have G_Chooser_call := G_Chooser_call0.toR bO
    refine ⟨_, (pss_cons (ps_set (i := 2) sc_lets.nd rfl (Or.inl rfl) pe_int)
      (pss_cons (ps_for PassesOwn.never rfl (pi_list (pv 1)) (pg_tup (n := 2) (by rfl) (pgs_cons (pg_name (i := 3) sc_lets.nd rfl (Or.inl rfl)) (pgs_cons (pg_name (i := 4) sc_lets.nd rfl (Or.inl rfl)) pgs_nil))) (pss_cons (ps_if (pt_cmpR op_notIn_seq (pv 4) (pe_callO (pv 0) CO_Chooser G_Chooser_call (hr.mono (by decide)) passL (pa_cons (pv 2) (pa_cons (pv 3) pa_nil))) (by rfl)) (pss_one (ps_ret pe_bl)) pss_nil)
      (pss_one (ps_set (i := 2) sc_lets.nd rfl (Or.inl rfl) (pe_meth (pv 0) C.cl ME_Chooser_after G_Chooser_after (hr.mono (by decide)) bM_Chooser_after .nil passL (pa_cons (pv 2) (pa_cons (pv 4) pa_nil)))))))
      (pss_one (ps_ret pe_bl)))), ?_⟩
    try simp (maxSteps := 1000000) only [tSeq, tIfS, tTest, tOp, tUn, tCB, tCons, tNil, tVar, tC, rI0, rI, rU, rEq, rNe, tRet, tRetN, tAsg, gName, gSub, tBM, tBM0, tNext, tB, tNot, tAnd, tOr, tIf, tCall, tDrop, tBreak, tCont, L2.start, tDGet, sDPut, tTup, tLst, tDNewK, tRevL, rCat, rAppend, rPop, rSetL, tAndV, tOrV, tNotV, tSl, tPart, tNoPart, tM1, gTup, gCons, gNil, cxK, cxnK, List.map_cons, List.map_nil, List.length_cons, List.length_nil, List.replicate, List.cons_append, List.nil_append, List.append_nil, List.set_cons_zero, List.set_cons_succ, List.getElem?_cons_zero, List.getElem?_cons_succ, Option.some.injEq, V.ref.injEq, V.int.injEq, V.str.injEq, V.bl.injEq, V.ty.injEq, exists_eq_left', exists_eq_left, exists_and_left, List.cons.injEq, and_true, true_and, sc_ii, sc_ss, sc_bb, sc_ni, sc_in, sc_is, sc_si, sc_nn, decide_true, decide_false, reduceCtorEq, Bool.false_eq_true, if_true, if_false, ite_true, ite_false, exists_const, eq_self, false_and, and_false, or_false, false_or, exists_false, Evl.rLenS, rSum, wipe, tYes, exists_eq, exists_eq', rIxL, rIxT, rIxS, exists_and_right, gt_iff_lt, not_true_eq_false, not_false_eq_true, Bool.not_true, Bool.not_false, decide_eq_true_eq, Nat.reduceSub, Nat.reduceAdd, List.append_assoc, tChain, tDIn, tDNotIn, sDDel, tAug, ipI, rInt1_int, rInt1_bl, tMeth]
    refine forL (xs := us) (a := l) (fun j σ H' => ∃ (t : Int) (c3 c4 : Option V), σ = [some (V.ref o), some (V.ref l), some (.int t), c3, c4] ∧ Kp [] H H' ∧ 0 ≤ t ∧ t < sts.length ∧ letsC sts t (prs.drop j) = letsC sts 0 prs) rfl (sq_l hl) ⟨0, none, none, rfl, Kp.refl _ _, Int.le_refl _, by have := hG.2.2.1; omega, rfl⟩ (fun j σ H' _ h => by obtain ⟨_, _, _, _, k, _⟩ := h; exact k.ls not0 (sq_l hl)) (fun j x σ H' hx h => ?_) fun σ H' h => ?_
    · obtain ⟨t, c3, c4, rfl, k, s0, s1, hj⟩ := h
      obtain ⟨⟨ab, kc⟩, ep, a, wv, rfl, ha, hw⟩ := hus.get hx
      have ha' := k _ _ not0 ha
      have hw' := hw.kp k
      obtain ⟨pa, p0, p1⟩ := hp _ (List.mem_of_getElem? ep)
      have dr : prs.drop j = (ab, kc) :: prs.drop (j + 1) := (List.drop_eq_getElem_cons (List.getElem?_eq_some_iff.mp ep).1).trans (by rw [(List.getElem?_eq_some_iff.mp ep).2])
      rw [dr] at hj
      have hj : (decide (kc ∈ letOf (stOf sts t).1 ab) && letsC sts (nxt sts t kc) (prs.drop (j + 1))) = letsC sts 0 prs := hj
      have gp := good_parts (hG.st s0 s1).2 (by have := hG.2.1; omega)
      try simp (maxSteps := 1000000) only [tSeq, tIfS, tTest, tOp, tUn, tCB, tCons, tNil, tVar, tC, rI0, rI, rU, rEq, rNe, tRet, tRetN, tAsg, gName, gSub, tBM, tBM0, tNext, tB, tNot, tAnd, tOr, tIf, tCall, tDrop, tBreak, tCont, L2.start, tDGet, sDPut, tTup, tLst, tDNewK, tRevL, rCat, rAppend, rPop, rSetL, tAndV, tOrV, tNotV, tSl, tPart, tNoPart, tM1, gTup, gCons, gNil, cxK, cxnK, List.map_cons, List.map_nil, List.length_cons, List.length_nil, List.replicate, List.cons_append, List.nil_append, List.append_nil, List.set_cons_zero, List.set_cons_succ, List.getElem?_cons_zero, List.getElem?_cons_succ, Option.some.injEq, V.ref.injEq, V.int.injEq, V.str.injEq, V.bl.injEq, V.ty.injEq, exists_eq_left', exists_eq_left, exists_and_left, List.cons.injEq, and_true, true_and, sc_ii, sc_ss, sc_bb, sc_ni, sc_in, sc_is, sc_si, sc_nn, decide_true, decide_false, reduceCtorEq, Bool.false_eq_true, if_true, if_false, ite_true, ite_false, exists_const, eq_self, false_and, and_false, or_false, false_or, exists_false, Evl.rLenS, rSum, wipe, tYes, exists_eq, exists_eq', rIxL, rIxT, rIxS, exists_and_right, gt_iff_lt, not_true_eq_false, not_false_eq_true, Bool.not_true, Bool.not_false, decide_eq_true_eq, Nat.reduceSub, Nat.reduceAdd, List.append_assoc, tChain, tDIn, tDNotIn, sDDel, tAug, ipI, rInt1_int, rInt1_bl, tMeth, tCallO]
      refine ⟨_, sq_t ha', rfl, _, _, rfl, _, _, rfl, rfl, ?_⟩
      obtain ⟨dx, lc, uc, hoC, hlC, huC⟩ := hC.kp k
      refine ⟨.inr ⟨dx, _, hoC⟩, o, t, c, wv, ab, sts, rfl, ⟨dx, lc, uc, hoC, hlC, huC⟩, hw', pa, fun s _ _ es => ?_, fun h => absurd ⟨s0, s1⟩ h⟩
      have es' := (hG.st s0 s1).1
      rw [es] at es'
      cases es'
      refine ⟨fun g hg => (gp.2.1 g hg).1, fun r H2 hr2 k2 => ?_⟩
      obtain ⟨ra, rfl, hra⟩ := hr2
      try simp (maxSteps := 1000000) only [tSeq, tIfS, tTest, tOp, tUn, tCB, tCons, tNil, tVar, tC, rI0, rI, rU, rEq, rNe, tRet, tRetN, tAsg, gName, gSub, tBM, tBM0, tNext, tB, tNot, tAnd, tOr, tIf, tCall, tDrop, tBreak, tCont, L2.start, tDGet, sDPut, tTup, tLst, tDNewK, tRevL, rCat, rAppend, rPop, rSetL, tAndV, tOrV, tNotV, tSl, tPart, tNoPart, tM1, gTup, gCons, gNil, cxK, cxnK, List.map_cons, List.map_nil, List.length_cons, List.length_nil, List.replicate, List.cons_append, List.nil_append, List.append_nil, List.set_cons_zero, List.set_cons_succ, List.getElem?_cons_zero, List.getElem?_cons_succ, Option.some.injEq, V.ref.injEq, V.int.injEq, V.str.injEq, V.bl.injEq, V.ty.injEq, exists_eq_left', exists_eq_left, exists_and_left, List.cons.injEq, and_true, true_and, sc_ii, sc_ss, sc_bb, sc_ni, sc_in, sc_is, sc_si, sc_nn, decide_true, decide_false, reduceCtorEq, Bool.false_eq_true, if_true, if_false, ite_true, ite_false, exists_const, eq_self, false_and, and_false, or_false, false_or, exists_false, Evl.rLenS, rSum, wipe, tYes, exists_eq, exists_eq', rIxL, rIxT, rIxS, exists_and_right, gt_iff_lt, not_true_eq_false, not_false_eq_true, Bool.not_true, Bool.not_false, decide_eq_true_eq, Nat.reduceSub, Nat.reduceAdd, List.append_assoc, tChain, tDIn, tDNotIn, sDDel, tAug, ipI, rInt1_int, rInt1_bl, rIn]
      refine ⟨_, .inr (sq_t hra), rfl, flat_ints _, ?_⟩
      rw [inV_int]
      by_cases hm : kc ∈ letOf (stOf sts t).1 ab
      · rw [decide_eq_true hm] at hj ⊢
        rw [Bool.true_and] at hj
        rw [if_neg (by simp)]
        have kk := k.trans k2
        obtain ⟨dx, lc, uc, hoC, hlC, huC⟩ := hC.kp kk
        refine ⟨dx, _, hoC, rfl, o, t, kc, c, sts, rfl, ⟨dx, lc, uc, hoC, hlC, huC⟩, fun s _ _ es2 => ?_, fun h => absurd ⟨s0, s1⟩ h⟩
        rw [es] at es2
        cases es2
        have nx := hG.nx s0 s1 p0 p1
        refine ⟨p0, by rw [gp.1]; exact p1, fun r er => ?_⟩
        rw [nx.1] at er
        cases er
        exact ⟨_, rfl, kk, nx.2.1, nx.2.2, hj⟩
      · rw [decide_eq_false hm] at hj ⊢
        rw [if_pos (by simp)]
        have := q H2 (k.trans k2)
        rw [← hj] at this
        exact this
    · obtain ⟨t, c3, c4, rfl, k, s0, s1, hj⟩ := h
      rw [hus.len, List.drop_length] at hj
      have := q H' k
      rw [← hj] at this
      try simp (maxSteps := 1000000) only [tSeq, tIfS, tTest, tOp, tUn, tCB, tCons, tNil, tVar, tC, rI0, rI, rU, rEq, rNe, tRet, tRetN, tAsg, gName, gSub, tBM, tBM0, tNext, tB, tNot, tAnd, tOr, tIf, tCall, tDrop, tBreak, tCont, L2.start, tDGet, sDPut, tTup, tLst, tDNewK, tRevL, rCat, rAppend, rPop, rSetL, tAndV, tOrV, tNotV, tSl, tPart, tNoPart, tM1, gTup, gCons, gNil, cxK, cxnK, List.map_cons, List.map_nil, List.length_cons, List.length_nil, List.replicate, List.cons_append, List.nil_append, List.append_nil, List.set_cons_zero, List.set_cons_succ, List.getElem?_cons_zero, List.getElem?_cons_succ, Option.some.injEq, V.ref.injEq, V.int.injEq, V.str.injEq, V.bl.injEq, V.ty.injEq, exists_eq_left', exists_eq_left, exists_and_left, List.cons.injEq, and_true, true_and, sc_ii, sc_ss, sc_bb, sc_ni, sc_in, sc_is, sc_si, sc_nn, decide_true, decide_false, reduceCtorEq, Bool.false_eq_true, if_true, if_false, ite_true, ite_false, exists_const, eq_self, false_and, and_false, or_false, false_or, exists_false, Evl.rLenS, rSum, wipe, tYes, exists_eq, exists_eq', rIxL, rIxT, rIxS, exists_and_right, gt_iff_lt, not_true_eq_false, not_false_eq_true, Bool.not_true, Bool.not_false, decide_eq_true_eq, Nat.reduceSub, Nat.reduceAdd, List.append_assoc, tChain, tDIn, tDNotIn, sDDel, tAug, ipI, rInt1_int, rInt1_bl]
      exact this
end
end My

set_option Elab.async false
set_option linter.all false
set_option maxRecDepth 100000
set_option maxHeartbeats 4000000
namespace My
open PySem L2 NdefX StX
abbrev s_law_cell : Stmt := top 19
theorem sc_law_cell : FnScope ["_law_script", "_law_k", "_law_text", "_law_at", "_law_cell_here"] ["_law_script", "_law_k"] (defScope s_law_cell) := ⟨rfl, rfl, rfl, by decide +kernel, rfl, by decide +kernel, by decide +kernel⟩
abbrev s_law_row : Stmt := top 20
theorem sc_law_row : FnScope ["_law_cell_here", "_law_many", "_law_out", "_law_rest", "_law_k", "_law_once", "_law_twice"] ["_law_cell_here", "_law_many"] (defScope s_law_row) := ⟨rfl, rfl, rfl, by decide +kernel, rfl, by decide +kernel, by decide +kernel⟩
abbrev s_law_state : Stmt := top 21
theorem sc_law_state : FnScope ["_law_row_here", "_law_many", "_law_size", "_law_rest", "_law_groups", "_law_k", "_law_one"] ["_law_row_here", "_law_many", "_law_size"] (defScope s_law_state) := ⟨rfl, rfl, rfl, by decide +kernel, rfl, by decide +kernel, by decide +kernel⟩
structure BtW (mg : Str → Option Value) : Prop where
  b_len : mg "len" = none
  b_int : mg "int" = none
  b_sum : mg "sum" = none
  b_abs : mg "abs" = none
  b_range : mg "range" = none
  b_list : mg "list" = none
  b_tuple : mg "tuple" = none
def Scr (K : PySem.W.Frag) (H : Hp) (a : Addr) (ns : List Int) : Prop := SqL K H a (ns.map V.int) ∧ ns.length ≤ 63
theorem Scr.kp {K : PySem.W.Frag} {H H' : Hp} {a : Addr} {ns : List Int} (h : Scr K H a ns) (k : Kp [] H H') : Scr K H' a ns := ⟨k.ls not0 h.1, h.2⟩
def piT : Str := "3141592653589793238462643383279502884197169399375105820974944592307816406286208998628034825342117067"
theorem pi_ok : ∀ i : Nat, i < 43 → (PySem.intText? (("1" : Str) ++ cutS piT (some (i : Int)) (some ((i : Int) + 57)))).isSome = true ∧ (("1" : Str) ++ cutS piT (some (i : Int)) (some ((i : Int) + 57))).length = 58 := by decide +kernel
theorem b01 {p : Prop} [Decidable p] : -(2 : Int) ^ 64 < (if p then (1 : Int) else 0) ∧ (if p then (1 : Int) else 0) < 2 ^ 64 := by split <;> decide
theorem b0 {p : Prop} [Decidable p] : 0 ≤ (if p then (1 : Int) else 0) := by split <;> decide
def RowIn (c : Int) (m : Nat) (p : Addr) (H : Hp) (j : Nat) (σ : L2.St) (H' : Hp) : Prop := ∃ (rest : Int) (ds : List Int) (c4 c5 c6 : Option V), σ = [some (.int c), some (.int (m : Nat)), some (.ref p), some (.int rest), c4, c5, c6] ∧ 0 ≤ rest ∧ H' p = some (.lst (ds.map V.int)) ∧ ds.length = j ∧ (∀ d ∈ ds, 0 ≤ d ∧ d < 1000) ∧ Kp [] H H'
section
variable {P : Program} {w : World} {K : PySem.W.Frag} {mg : Str → Option Value} {base : Heap}
def spCell (K : PySem.W.Frag) : Sp := fun vs H Q _ => ∃ (a : Addr) (k : Int) (ns : List Int), vs = [.ref a, .int k] ∧ Scr K H a ns ∧ 0 ≤ k ∧ k ≤ 1000 ∧ ∀ r H', Kp [] H H' → Q (.int r) H'
theorem ok_law_cell {f : Addr} {fd : FuncData} (D : Df K mg "_law_cell" s_law_cell ["_law_script", "_law_k"] f fd) (T : BtW mg) : FnOk P w K mg base CX0 1 f fd ["_law_script", "_law_k"] (spCell K) := by
  refine D.F.ok sc_law_cell (fun vs H Q E h => ?_) (fun cdv A outer s H vs Q E hr h => ?_)
  · obtain ⟨_, _, _, rfl, _⟩ := h
    rfl
  · obtain ⟨a, k, ns, rfl, ⟨hS, hl⟩, k0, k1, q⟩ := h
    refine ⟨_, (pss_cons (ps_if (pt_cmpR op_lt (pv 1) (pe_callB (id := "len") (r := Evl.rLenS K) call_len_seq (by rfl) T.b_len PySem.boot_len (pa_cons (pv 0) pa_nil)) (nomark _)) (pss_one (ps_ret (pe_ix (r := rIxL K) ix_list (pv 0) (pv 1) (fun _ _ => rfl)))) pss_nil)
      (pss_cons (ps_set (i := 2) sc_law_cell.nd rfl (Or.inl rfl) pe_str)
      (pss_cons (ps_set (i := 3) sc_law_cell.nd rfl (Or.inl rfl) (pe_op op_mod (pe_callTy (T := "int") (r := rInt1) call_int1 (by rfl) T.b_int (by decide +kernel) (pa_cons (pe_op op_add (pe_callB (id := "sum") (r := rSum K) (cr_sum rfl) (by rfl) T.b_sum (by decide +kernel) (pa_cons (pe_lc (own := [("_law_cell_here", 4)]) (g := (gName 4)) (tt := tYes) rfl sc_law_cell.nd (pi_list (pe_slice sl_list (pv 0) po_none (po_some pe_int))) (blkOk_by (N := ["_law_script", "_law_k", "_law_text", "_law_at", "_law_cell_here"]) (sc := defScope s_law_cell) (by decide +kernel)) (fun _ _ _ _ _ => (pg_name (i := 4) sc_law_cell.nd rfl (Or.inl rfl))) (fun _ _ _ _ _ => pts_nil) (fun _ _ _ _ _ => (pe_op op_mod (pe_callTy (T := "int") (r := rInt1) call_int1 (by rfl) T.b_int (by decide +kernel) (pa_cons (pv 4) pa_nil)) pe_int))) pa_nil)) (pe_op op_mul pe_int (pv 1))) pa_nil)) pe_int))
      (pss_one (ps_ret (pe_callTy (T := "int") call_int_str (by rfl) T.b_int (by decide +kernel) (pa_cons (pe_op op_add_str pe_str (pe_slice sl_str (pv 2) (po_some (pv 3)) (po_some (pe_op op_add (pv 3) pe_int)))) pa_nil))))))), ?_⟩
    try simp (maxSteps := 1000000) only [tSeq, tIfS, tTest, tOp, tUn, tCB, tCons, tNil, tVar, tC, rI0, rI, rU, rEq, rNe, tRet, tRetN, tAsg, gName, gSub, tBM, tBM0, tNext, tB, tNot, tAnd, tOr, tIf, tCall, tDrop, tBreak, tCont, L2.start, tDGet, sDPut, tTup, tLst, tDNewK, tRevL, rCat, rAppend, rPop, rSetL, tAndV, tOrV, tNotV, tSl, tPart, tNoPart, tM1, gTup, gCons, gNil, cxK, cxnK, List.map_cons, List.map_nil, List.length_cons, List.length_nil, List.replicate, List.cons_append, List.nil_append, List.append_nil, List.set_cons_zero, List.set_cons_succ, List.getElem?_cons_zero, List.getElem?_cons_succ, Option.some.injEq, V.ref.injEq, V.int.injEq, V.str.injEq, V.bl.injEq, V.ty.injEq, exists_eq_left', exists_eq_left, exists_and_left, List.cons.injEq, and_true, true_and, sc_ii, sc_ss, sc_bb, sc_ni, sc_in, sc_is, sc_si, sc_nn, decide_true, decide_false, reduceCtorEq, Bool.false_eq_true, if_true, if_false, ite_true, ite_false, exists_const, eq_self, false_and, and_false, or_false, false_or, exists_false, Evl.rLenS, rSum, wipe, tYes, exists_eq, exists_eq', rIxL, rIxT, rIxS, exists_and_right, gt_iff_lt, not_true_eq_false, not_false_eq_true, Bool.not_true, Bool.not_false, decide_eq_true_eq, Nat.reduceSub, Nat.reduceAdd, List.append_assoc, tChain, tDIn, tDNotIn, sDDel, tAug, ipI, rInt1_int, rInt1_bl]
    refine ⟨_, .inl hS, ?_⟩
    rw [List.length_map]
    refine ite2 (fun h1 => ?_) (fun h1 => ?_)
    · obtain ⟨v, hv, ev⟩ := atI_ex (xs := ns.map V.int) k0 (by rw [List.length_map]; exact h1)
      obtain ⟨x, _, rfl⟩ := List.mem_map.mp hv
      exact ⟨_, hS, _, ev, q _ _ (Kp.refl _ _)⟩
    · refine lc_src ?_
      try simp (maxSteps := 1000000) only [tSeq, tIfS, tTest, tOp, tUn, tCB, tCons, tNil, tVar, tC, rI0, rI, rU, rEq, rNe, tRet, tRetN, tAsg, gName, gSub, tBM, tBM0, tNext, tB, tNot, tAnd, tOr, tIf, tCall, tDrop, tBreak, tCont, L2.start, tDGet, sDPut, tTup, tLst, tDNewK, tRevL, rCat, rAppend, rPop, rSetL, tAndV, tOrV, tNotV, tSl, tPart, tNoPart, tM1, gTup, gCons, gNil, cxK, cxnK, List.map_cons, List.map_nil, List.length_cons, List.length_nil, List.replicate, List.cons_append, List.nil_append, List.append_nil, List.set_cons_zero, List.set_cons_succ, List.getElem?_cons_zero, List.getElem?_cons_succ, Option.some.injEq, V.ref.injEq, V.int.injEq, V.str.injEq, V.bl.injEq, V.ty.injEq, exists_eq_left', exists_eq_left, exists_and_left, List.cons.injEq, and_true, true_and, sc_ii, sc_ss, sc_bb, sc_ni, sc_in, sc_is, sc_si, sc_nn, decide_true, decide_false, reduceCtorEq, Bool.false_eq_true, if_true, if_false, ite_true, ite_false, exists_const, eq_self, false_and, and_false, or_false, false_or, exists_false, Evl.rLenS, rSum, wipe, tYes, exists_eq, exists_eq', rIxL, rIxT, rIxS, exists_and_right, gt_iff_lt, not_true_eq_false, not_false_eq_true, Bool.not_true, Bool.not_false, decide_eq_true_eq, Nat.reduceSub, Nat.reduceAdd, List.append_assoc, tChain, tDIn, tDNotIn, sDDel, tAug, ipI, rInt1_int, rInt1_bl]
      refine ⟨a, _, rfl, hS, fun s ns_ => ?_⟩
      have e9 : cutV (ns.map V.int) none (some 9) = (ns.take 9).map V.int := cut_0j (j := 9)
      rw [e9]
      refine lcMapL (R := fun _ v (x : Int) => v = .int x) (fun _ _ _ _ _ h => h) (fun x => x % 101) V.int (fun R h => h) (sq_l upd_same) (rwInts _) (by rw [List.length_take]; omega) (by simp) (fun v x H3 Q3 _ hv k3 q3 => ?_) fun D H3 nD hD k3 => ?_
      · subst hv
        try simp (maxSteps := 1000000) only [tSeq, tIfS, tTest, tOp, tUn, tCB, tCons, tNil, tVar, tC, rI0, rI, rU, rEq, rNe, tRet, tRetN, tAsg, gName, gSub, tBM, tBM0, tNext, tB, tNot, tAnd, tOr, tIf, tCall, tDrop, tBreak, tCont, L2.start, tDGet, sDPut, tTup, tLst, tDNewK, tRevL, rCat, rAppend, rPop, rSetL, tAndV, tOrV, tNotV, tSl, tPart, tNoPart, tM1, gTup, gCons, gNil, cxK, cxnK, List.map_cons, List.map_nil, List.length_cons, List.length_nil, List.replicate, List.cons_append, List.nil_append, List.append_nil, List.set_cons_zero, List.set_cons_succ, List.getElem?_cons_zero, List.getElem?_cons_succ, Option.some.injEq, V.ref.injEq, V.int.injEq, V.str.injEq, V.bl.injEq, V.ty.injEq, exists_eq_left', exists_eq_left, exists_and_left, List.cons.injEq, and_true, true_and, sc_ii, sc_ss, sc_bb, sc_ni, sc_in, sc_is, sc_si, sc_nn, decide_true, decide_false, reduceCtorEq, Bool.false_eq_true, if_true, if_false, ite_true, ite_false, exists_const, eq_self, false_and, and_false, or_false, false_or, exists_false, Evl.rLenS, rSum, wipe, tYes, exists_eq, exists_eq', rIxL, rIxT, rIxS, exists_and_right, gt_iff_lt, not_true_eq_false, not_false_eq_true, Bool.not_true, Bool.not_false, decide_eq_true_eq, Nat.reduceSub, Nat.reduceAdd, List.append_assoc, tChain, tDIn, tDNotIn, sDDel, tAug, ipI, rInt1_int, rInt1_bl]
        exact ⟨by decide, q3 H3 (Kp.refl _ _)⟩
      refine ⟨D, rfl, (ns.take 9).map fun x => x % 101, sq_l (hD.trans (by rw [List.map_map]; rfl)), .inl ⟨by decide, by decide⟩, by decide, ?_⟩
      generalize (List.map (fun x => x % 101) (List.take 9 ns)).sum + 5 * k = z
      have m1 := Int.emod_nonneg z (show (43 : Int) ≠ 0 by decide)
      have m2 := Int.emod_lt_of_pos z (show (0 : Int) < 43 by decide)
      obtain ⟨n, en⟩ : ∃ n : Nat, z % 43 = n := ⟨(z % 43).toNat, by omega⟩
      rw [en] at m2 ⊢
      obtain ⟨p1, p2⟩ := pi_ok n (by omega)
      obtain ⟨r, er⟩ := Option.isSome_iff_exists.mp p1
      have el : ∀ x : Str, (("1" : Str) ++ x).length = 1 + x.length := fun x => by rw [len_app]; rfl
      refine ⟨_, rfl, by exact small (by decide +kernel), _, rfl, ?_, r, er, ?_, q _ _ ((Kp.new ns_).trans k3)⟩
      · rw [el] at p2
        exact small (by
          have e1 : (Str.ofString "1").length = 1 := by decide +kernel
          rw [e1]
          exact Nat.le_trans (Nat.le_of_eq p2) (by decide))
      · exact Nat.le_trans (Nat.le_of_eq p2) (by decide)
def spRow : Sp := fun vs H Q _ => ∃ (c : Int) (m : Nat), vs = [.int c, .int (m : Nat)] ∧ m ≤ 100 ∧ ∀ (l : Addr) (ds : List Int) H', H l = none → H' l = some (.lst (ds.map V.int)) → ds.length = m → (∀ d ∈ ds, 0 ≤ d ∧ d < 1000) → Kp [] H H' → Q (.ref l) H'
theorem ok_law_row {f : Addr} {fd : FuncData} (D : Df K mg "_law_row" s_law_row ["_law_cell_here", "_law_many"] f fd) (T : BtW mg) : FnOk P w K mg base CX0 1 f fd ["_law_cell_here", "_law_many"] spRow := by
  refine D.F.ok sc_law_row (fun vs H Q E h => ?_) (fun cdv A outer s H vs Q E hr h => ?_)
  · obtain ⟨_, _, rfl, _⟩ := h
    rfl
  · obtain ⟨c, m, rfl, ml, q⟩ := h
    refine ⟨_, (pss_cons (ps_set (i := 2) sc_law_row.nd rfl (Or.inl rfl) (pe_lst pa_nil))
      (pss_cons (ps_set (i := 3) sc_law_row.nd rfl (Or.inl rfl) (pe_op op_mul (pe_callB (id := "abs") call_abs (by rfl) T.b_abs (by decide +kernel) (pa_cons (pv 0) pa_nil)) (pe_callTy (T := "int") (r := rInt1) call_int1 (by rfl) T.b_int (by decide +kernel) (pa_cons (pe_cmpR op_ge (pe_callB (id := "abs") call_abs (by rfl) T.b_abs (by decide +kernel) (pa_cons (pv 0) pa_nil)) (pe_op op_pow pe_int pe_int) (nomark _)) pa_nil))))
      (pss_cons (ps_for PassesOwn.never rfl (pi_range1 rfl T.b_range (pa_cons (pv 1) pa_nil)) (pg_name (i := 4) sc_law_row.nd rfl (Or.inl rfl)) (pss_one (ps_if (pt_cmpR op_gt (pv 3) pe_int (nomark _)) (pss_cons (ps_expr (pe_bm PySem.F.plainAttrs_list PySem.F.slot_list_append PySem.F.type_list_append mt_append (pv 2) (pa_cons (pe_op op_mod (pe_callTy (T := "int") (r := rInt1) call_int1 (by rfl) T.b_int (by decide +kernel) (pa_cons (pv 3) pa_nil)) pe_int) pa_nil)))
      (pss_one (ps_set (i := 3) sc_law_row.nd rfl (Or.inl rfl) (pe_op op_fdiv (pv 3) pe_int)))) (pss_cons (ps_set (i := 5) sc_law_row.nd rfl (Or.inl rfl) (pe_op op_mod (pe_callTy (T := "int") (r := rInt1) call_int1 (by rfl) T.b_int (by decide +kernel) (pa_cons (pe_op op_mul (pe_op op_add (pe_op op_add (pe_op op_mod (pe_callTy (T := "int") (r := rInt1) call_int1 (by rfl) T.b_int (by decide +kernel) (pa_cons (pv 0) pa_nil)) pe_int) (pe_op op_mul pe_int (pv 4))) pe_int) pe_int) pa_nil)) pe_int))
      (pss_cons (ps_set (i := 6) sc_law_row.nd rfl (Or.inl rfl) (pe_op op_mod (pe_callTy (T := "int") (r := rInt1) call_int1 (by rfl) T.b_int (by decide +kernel) (pa_cons (pe_op op_add (pe_op op_add (pe_op op_mul (pv 5) (pv 5)) (pe_op op_mul pe_int (pv 5))) (pe_op op_mul pe_int (pv 4))) pa_nil)) pe_int))
      (pss_one (ps_expr (pe_bm PySem.F.plainAttrs_list PySem.F.slot_list_append PySem.F.type_list_append mt_append (pv 2) (pa_cons (pe_op op_mod (pe_callTy (T := "int") (r := rInt1) call_int1 (by rfl) T.b_int (by decide +kernel) (pa_cons (pe_op op_fdiv (pv 6) pe_int) pa_nil)) pe_int) pa_nil)))))))))
      (pss_one (ps_ret (pv 2)))))), ?_⟩
    try simp (maxSteps := 1000000) only [tSeq, tIfS, tTest, tOp, tUn, tCB, tCons, tNil, tVar, tC, rI0, rI, rU, rEq, rNe, tRet, tRetN, tAsg, gName, gSub, tBM, tBM0, tNext, tB, tNot, tAnd, tOr, tIf, tCall, tDrop, tBreak, tCont, L2.start, tDGet, sDPut, tTup, tLst, tDNewK, tRevL, rCat, rAppend, rPop, rSetL, tAndV, tOrV, tNotV, tSl, tPart, tNoPart, tM1, gTup, gCons, gNil, cxK, cxnK, List.map_cons, List.map_nil, List.length_cons, List.length_nil, List.replicate, List.cons_append, List.nil_append, List.append_nil, List.set_cons_zero, List.set_cons_succ, List.getElem?_cons_zero, List.getElem?_cons_succ, Option.some.injEq, V.ref.injEq, V.int.injEq, V.str.injEq, V.bl.injEq, V.ty.injEq, exists_eq_left', exists_eq_left, exists_and_left, List.cons.injEq, and_true, true_and, sc_ii, sc_ss, sc_bb, sc_ni, sc_in, sc_is, sc_si, sc_nn, decide_true, decide_false, reduceCtorEq, Bool.false_eq_true, if_true, if_false, ite_true, ite_false, exists_const, eq_self, false_and, and_false, or_false, false_or, exists_false, Evl.rLenS, rSum, wipe, tYes, exists_eq, exists_eq', rIxL, rIxT, rIxS, exists_and_right, gt_iff_lt, not_true_eq_false, not_false_eq_true, Bool.not_true, Bool.not_false, decide_eq_true_eq, Nat.reduceSub, Nat.reduceAdd, List.append_assoc, tChain, tDIn, tDNotIn, sDDel, tAug, ipI, rInt1_int, rInt1_bl]
    have p18 : CPow 10 18 := ⟨by decide, by decide, by decide⟩
    refine ⟨Nat.zero_le _, fun p np => ⟨p18, .inr b01, ?_⟩⟩
    have r0 : 0 ≤ (if c < 0 then -c else c) * (if 10 ^ Int.toNat 18 ≤ (if c < 0 then -c else c) then (1 : Int) else 0) := Int.mul_nonneg (by split <;> omega) b0
    generalize (if c < 0 then -c else c) * (if 10 ^ Int.toNat 18 ≤ (if c < 0 then -c else c) then (1 : Int) else 0) = rest0 at r0 ⊢
    refine forN m (by omega) (RowIn c m p H) (fun R h => ⟨_, rfl, h⟩) ⟨rest0, [], none, none, none, rfl, r0, upd_same, rfl, (fun d hd => nomatch hd), Kp.new np⟩ (fun j σ H' hj h => ?_) fun σ H' h => ?_
    · obtain ⟨rest, ds, c4, c5, c6, rfl, h0, hp, hl, hd, k⟩ := h
      have sl : (ds.map V.int).length < sizeLine := smallL (by rw [List.length_map]; omega)
      have more : ∀ d : Int, 0 ≤ d → d < 1000 → ∀ x ∈ ds ++ [d], 0 ≤ x ∧ x < 1000 := fun d d0 d1 x hx => by
        rcases List.mem_append.mp hx with hx | hx
        · exact hd x hx
        · rw [List.mem_singleton.mp hx]; exact ⟨d0, d1⟩
      try simp (maxSteps := 1000000) only [tSeq, tIfS, tTest, tOp, tUn, tCB, tCons, tNil, tVar, tC, rI0, rI, rU, rEq, rNe, tRet, tRetN, tAsg, gName, gSub, tBM, tBM0, tNext, tB, tNot, tAnd, tOr, tIf, tCall, tDrop, tBreak, tCont, L2.start, tDGet, sDPut, tTup, tLst, tDNewK, tRevL, rCat, rAppend, rPop, rSetL, tAndV, tOrV, tNotV, tSl, tPart, tNoPart, tM1, gTup, gCons, gNil, cxK, cxnK, List.map_cons, List.map_nil, List.length_cons, List.length_nil, List.replicate, List.cons_append, List.nil_append, List.append_nil, List.set_cons_zero, List.set_cons_succ, List.getElem?_cons_zero, List.getElem?_cons_succ, Option.some.injEq, V.ref.injEq, V.int.injEq, V.str.injEq, V.bl.injEq, V.ty.injEq, exists_eq_left', exists_eq_left, exists_and_left, List.cons.injEq, and_true, true_and, sc_ii, sc_ss, sc_bb, sc_ni, sc_in, sc_is, sc_si, sc_nn, decide_true, decide_false, reduceCtorEq, Bool.false_eq_true, if_true, if_false, ite_true, ite_false, exists_const, eq_self, false_and, and_false, or_false, false_or, exists_false, Evl.rLenS, rSum, wipe, tYes, exists_eq, exists_eq', rIxL, rIxT, rIxS, exists_and_right, gt_iff_lt, not_true_eq_false, not_false_eq_true, Bool.not_true, Bool.not_false, decide_eq_true_eq, Nat.reduceSub, Nat.reduceAdd, List.append_assoc, tChain, tDIn, tDNotIn, sDDel, tAug, ipI, rInt1_int, rInt1_bl]
      refine ite2 (fun h1 => ?_) (fun h1 => ?_)
      · have m1 := Int.emod_nonneg rest (show (1000 : Int) ≠ 0 by decide)
        have m2 := Int.emod_lt_of_pos rest (show (0 : Int) < 1000 by decide)
        exact ⟨.inl ⟨rfl, _, sq_l hp⟩, by decide, _, hp, sl, ⟨by decide, by decide⟩, _, ds ++ [rest % 1000], _, _, _, rfl, Int.ediv_nonneg h0 (by decide), by rw [upd_same, List.map_append]; rfl, by rw [List.length_append, hl]; rfl, more _ m1 m2, k.wr np⟩
      · have a1 := Int.emod_nonneg ((c % 9973 + 101 * ((j : Nat) : Int) + 7) * 271) (show (9967 : Int) ≠ 0 by decide)
        have a2 := Int.emod_lt_of_pos ((c % 9973 + 101 * ((j : Nat) : Int) + 7) * 271) (show (0 : Int) < 9967 by decide)
        refine ⟨by decide, .inl ⟨by decide, by decide⟩, .inr ⟨by decide, by decide⟩, by decide, ?_⟩
        generalize (c % 9973 + 101 * ((j : Nat) : Int) + 7) * 271 % 9967 = once at a1 a2 ⊢
        refine ⟨.inl ⟨by omega, by omega⟩, .inl ⟨by decide, by decide⟩, .inl ⟨by decide, by decide⟩, by decide, .inl ⟨rfl, _, sq_l hp⟩, ⟨by decide, by decide⟩, by decide, _, hp, sl, ?_⟩
        generalize (once * once + 31 * once + 69 * ((j : Nat) : Int)) % 10007 = twice
        have m1 := Int.emod_nonneg (twice / 7) (show (1000 : Int) ≠ 0 by decide)
        have m2 := Int.emod_lt_of_pos (twice / 7) (show (0 : Int) < 1000 by decide)
        exact ⟨_, ds ++ [twice / 7 % 1000], _, _, _, rfl, h0, by rw [upd_same, List.map_append]; rfl, by rw [List.length_append, hl]; rfl, more _ m1 m2, k.wr np⟩
    · obtain ⟨rest, ds, c4, c5, c6, rfl, h0, hp, hl, hd, k⟩ := h
      try simp (maxSteps := 1000000) only [tSeq, tIfS, tTest, tOp, tUn, tCB, tCons, tNil, tVar, tC, rI0, rI, rU, rEq, rNe, tRet, tRetN, tAsg, gName, gSub, tBM, tBM0, tNext, tB, tNot, tAnd, tOr, tIf, tCall, tDrop, tBreak, tCont, L2.start, tDGet, sDPut, tTup, tLst, tDNewK, tRevL, rCat, rAppend, rPop, rSetL, tAndV, tOrV, tNotV, tSl, tPart, tNoPart, tM1, gTup, gCons, gNil, cxK, cxnK, List.map_cons, List.map_nil, List.length_cons, List.length_nil, List.replicate, List.cons_append, List.nil_append, List.append_nil, List.set_cons_zero, List.set_cons_succ, List.getElem?_cons_zero, List.getElem?_cons_succ, Option.some.injEq, V.ref.injEq, V.int.injEq, V.str.injEq, V.bl.injEq, V.ty.injEq, exists_eq_left', exists_eq_left, exists_and_left, List.cons.injEq, and_true, true_and, sc_ii, sc_ss, sc_bb, sc_ni, sc_in, sc_is, sc_si, sc_nn, decide_true, decide_false, reduceCtorEq, Bool.false_eq_true, if_true, if_false, ite_true, ite_false, exists_const, eq_self, false_and, and_false, or_false, false_or, exists_false, Evl.rLenS, rSum, wipe, tYes, exists_eq, exists_eq', rIxL, rIxT, rIxS, exists_and_right, gt_iff_lt, not_true_eq_false, not_false_eq_true, Bool.not_true, Bool.not_false, decide_eq_true_eq, Nat.reduceSub, Nat.reduceAdd, List.append_assoc, tChain, tDIn, tDNotIn, sDDel, tAug, ipI, rInt1_int, rInt1_bl]
      exact q p ds H' np hp hl hd k
def bitI (code k : Int) : Bool := decide (code / (if k = 0 then 1 else if k = 1 then 2 else 4) % 2 = 1)
def ableI (code : Int) (n : Nat) : List Int := (rgI n).filter (bitI code)
end
end My

set_option Elab.async false
set_option linter.all false
set_option maxRecDepth 100000
set_option maxHeartbeats 4000000
namespace My
open PySem L2 NdefX
abbrev s_law_number : Stmt := top 30
theorem sc_law_number : FnScope ["_law_x", "_law_due_here"] ["_law_x", "_law_due_here"] (defScope s_law_number) := ⟨rfl, rfl, rfl, by decide +kernel, rfl, by decide +kernel, by decide +kernel⟩
abbrev s_law_ladder : Stmt := top 22
theorem sc_law_ladder : FnScope ["_law_states", "_law_many", "_law_steps", "_law_k", "_law_key", "_law_after", "_law_one"] ["_law_states", "_law_many"] (defScope s_law_ladder) := ⟨rfl, rfl, rfl, by decide +kernel, rfl, by decide +kernel, by decide +kernel⟩
theorem lcRg {ta : TA} {g : TG} {tt : TT} {te : TE} {vs : List Nat} {σ : L2.St} {H : Hp} {Q : VK} (m : Nat) (hm : m ≤ 100000) (Pv : Addr → Nat → Hp → Prop) (ht : ∀ R : List V → Hp → Prop, R [.int (m : Nat)] H → ta σ H R) (h0 : ∀ o, H o = none → Pv o 0 (upd H o (.lst [])))
    (step : ∀ o i H', H o = none → i < m → Pv o i H' → g (.int (i : Nat)) (wipe σ vs) H' fun σ2 H2 => wipe σ2 vs = wipe σ vs ∧ tt σ2 H2 fun b H3 => if b = true then te σ2 H3 fun y H4 => ∃ acc, H4 o = some (.lst acc) ∧ acc.length < sizeLine ∧ Pv o (i + 1) (upd H4 o (.lst (acc ++ [y]))) else Pv o (i + 1) H3)
    (fin : ∀ o H', H o = none → Pv o m H' → Q (.ref o) H') : tLc (iRng1 ta) g tt te vs σ H Q :=
  ht _ ⟨(m : Nat), rfl, by omega, by omega, fun o no => lc_range (Pv o) (h0 o no) (fun i H' hi p => by
    rw [Int.toNat_natCast] at hi
    have := step o i H' no hi p
    rwa [show ((0 : Int) + (i : Nat)) = ((i : Nat) : Int) by omega]) fun H' p => by
    rw [Int.toNat_natCast] at p
    exact fin o H' no p⟩
/-- at the key the next one, else 0 -/
def ladR (sts : List Cst) (c : Nat) (k : Nat) : Cst := ((stOf sts k).1, (List.replicate c (0 : Int)).set ((stOf sts k).2.getD 0 0 % (c : Nat)).toNat (((k : Nat) + 1 : Int) % (sts.length : Nat)))
def ladC (sts : List Cst) (c : Nat) : List Cst := (List.range sts.length).map (ladR sts c)
section
variable {P : Program} {w : World} {K : PySem.W.Frag} {mg : Str → Option Value} {base : Heap} {t1 t2 : Tok}
def spLad : Sp := fun vs H Q _ => ∃ (a : Addr) (us : List V) (c : Nat) (sts : List Cst), vs = [.ref a, .int (c : Nat)] ∧ H a = some (.lst us) ∧ Rw (TSt H) us sts ∧ 1 ≤ c ∧ c ≤ 3 ∧ 1 ≤ sts.length ∧ sts.length ≤ 12 ∧ (∀ s ∈ sts, s.2.length = c) ∧ ∀ l us' H', H l = none → H' l = some (.lst us') → Rw (TSt H') us' (ladC sts c) → Kp [] H H' → Q (.ref l) H'
theorem ok_law_ladder {f : Addr} {fd : FuncData} (D : Df K mg "_law_ladder" s_law_ladder ["_law_states", "_law_many"] f fd) (T : BtW mg) : FnOk P w K mg base CX0 1 f fd ["_law_states", "_law_many"] spLad := by
  refine D.F.ok sc_law_ladder (fun vs H Q E h => ?_) (fun cdv A outer s H vs Q E hr h => ?_)
  · obtain ⟨_, _, _, _, rfl, _⟩ := h
    rfl
  · obtain ⟨a, us, c, sts, rfl, ha, hus, c1, c3, n1, n12, hl, q⟩ := h
    refine ⟨_, (pss_cons (ps_set (i := 2) sc_law_ladder.nd rfl (Or.inl rfl) (pe_lst pa_nil))
      (pss_cons (ps_for PassesOwn.never rfl (pi_range1 rfl T.b_range (pa_cons (pe_callB (id := "len") (r := Evl.rLenS K) call_len_seq (by rfl) T.b_len PySem.boot_len (pa_cons (pv 0) pa_nil)) pa_nil)) (pg_name (i := 3) sc_law_ladder.nd rfl (Or.inl rfl)) (pss_cons (ps_set (i := 4) sc_law_ladder.nd rfl (Or.inl rfl) (pe_op op_mod (pe_callTy (T := "int") (r := rInt1) call_int1 (by rfl) T.b_int (by decide +kernel) (pa_cons (pe_ix (r := rIxT K) ix_tup (pe_ix (r := rIxT K) ix_tup (pe_ix (r := rIxL K) ix_list (pv 0) (pv 3) (fun _ _ => rfl)) pe_int (fun _ _ => rfl)) pe_int (fun _ _ => rfl)) pa_nil)) (pv 1)))
      (pss_cons (ps_setLc (i := 5) (own := [("_law_one", 6)]) (g := (gName 6)) (tt := tYes) rfl sc_law_ladder.nd rfl rfl (sw_true rfl rfl rfl (by decide +kernel)) (pi_range1 rfl T.b_range (pa_cons (pv 1) pa_nil)) (blkOk_by (N := ["_law_states", "_law_many", "_law_steps", "_law_k", "_law_key", "_law_after", "_law_one"]) (sc := defScope s_law_ladder) (by decide +kernel)) (fun _ _ _ _ _ => (pg_name (i := 6) sc_law_ladder.nd rfl (Or.inl rfl))) (fun _ _ _ _ _ => pts_nil) (fun _ _ _ _ _ => pe_int))
      (pss_cons (ps_asg (pe_op op_mod (pe_callTy (T := "int") (r := rInt1) call_int1 (by rfl) T.b_int (by decide +kernel) (pa_cons (pe_op op_add (pv 3) pe_int) pa_nil)) (pe_callB (id := "len") (r := Evl.rLenS K) call_len_seq (by rfl) T.b_len PySem.boot_len (pa_cons (pv 0) pa_nil))) (pg_sub (pv 5) (pv 4) set_list))
      (pss_one (ps_expr (pe_bm PySem.F.plainAttrs_list PySem.F.slot_list_append PySem.F.type_list_append mt_append (pv 2) (pa_cons (pe_tup (pa_cons (pe_ix (r := rIxT K) ix_tup (pe_ix (r := rIxL K) ix_list (pv 0) (pv 3) (fun _ _ => rfl)) pe_int (fun _ _ => rfl)) (pa_cons (pe_callTy call_tuple_of (by rfl) T.b_tuple (by decide +kernel) (pa_cons (pv 5) pa_nil)) pa_nil))) pa_nil))))))))
      (pss_one (ps_ret (pv 2))))), ?_⟩
    try simp (maxSteps := 1000000) only [tSeq, tIfS, tTest, tOp, tUn, tCB, tCons, tNil, tVar, tC, rI0, rI, rU, rEq, rNe, tRet, tRetN, tAsg, gName, gSub, tBM, tBM0, tNext, tB, tNot, tAnd, tOr, tIf, tCall, tDrop, tBreak, tCont, L2.start, tDGet, sDPut, tTup, tLst, tDNewK, tRevL, rCat, rAppend, rPop, rSetL, tAndV, tOrV, tNotV, tSl, tPart, tNoPart, tM1, gTup, gCons, gNil, cxK, cxnK, List.map_cons, List.map_nil, List.length_cons, List.length_nil, List.replicate, List.cons_append, List.nil_append, List.append_nil, List.set_cons_zero, List.set_cons_succ, List.getElem?_cons_zero, List.getElem?_cons_succ, Option.some.injEq, V.ref.injEq, V.int.injEq, V.str.injEq, V.bl.injEq, V.ty.injEq, exists_eq_left', exists_eq_left, exists_and_left, List.cons.injEq, and_true, true_and, sc_ii, sc_ss, sc_bb, sc_ni, sc_in, sc_is, sc_si, sc_nn, decide_true, decide_false, reduceCtorEq, Bool.false_eq_true, if_true, if_false, ite_true, ite_false, exists_const, eq_self, false_and, and_false, or_false, false_or, exists_false, Evl.rLenS, rSum, wipe, tYes, exists_eq, exists_eq', rIxL, rIxT, rIxS, exists_and_right, gt_iff_lt, not_true_eq_false, not_false_eq_true, Bool.not_true, Bool.not_false, decide_eq_true_eq, Nat.reduceSub, Nat.reduceAdd, List.append_assoc, tChain, tDIn, tDNotIn, sDDel, tAug, ipI, rInt1_int, rInt1_bl]
    refine ⟨Nat.zero_le _, fun p np => ?_⟩
    have k0 := (Kp.new np : Kp [] H (upd H p (.lst [])))
    have hp : (upd H p (.lst [])) p = some (.lst []) := upd_same
    generalize upd H p (.lst []) = H1 at k0 hp ⊢
    refine forN sts.length (by omega) (fun j σ H' => ∃ (vs : List V) (c3 c4 c5 : Option V), σ = [some (.ref a), some (.int (c : Nat)), some (.ref p), c3, c4, c5, none] ∧ H' p = some (.lst vs) ∧ Rw (TSt H') vs ((List.range j).map (ladR sts c)) ∧ Kp [] H H') (fun R h => ?_) ⟨[], _, _, _, rfl, hp, .nil, k0⟩ ?_ ?_
    · try simp (maxSteps := 1000000) only [tSeq, tIfS, tTest, tOp, tUn, tCB, tCons, tNil, tVar, tC, rI0, rI, rU, rEq, rNe, tRet, tRetN, tAsg, gName, gSub, tBM, tBM0, tNext, tB, tNot, tAnd, tOr, tIf, tCall, tDrop, tBreak, tCont, L2.start, tDGet, sDPut, tTup, tLst, tDNewK, tRevL, rCat, rAppend, rPop, rSetL, tAndV, tOrV, tNotV, tSl, tPart, tNoPart, tM1, gTup, gCons, gNil, cxK, cxnK, List.map_cons, List.map_nil, List.length_cons, List.length_nil, List.replicate, List.cons_append, List.nil_append, List.append_nil, List.set_cons_zero, List.set_cons_succ, List.getElem?_cons_zero, List.getElem?_cons_succ, Option.some.injEq, V.ref.injEq, V.int.injEq, V.str.injEq, V.bl.injEq, V.ty.injEq, exists_eq_left', exists_eq_left, exists_and_left, List.cons.injEq, and_true, true_and, sc_ii, sc_ss, sc_bb, sc_ni, sc_in, sc_is, sc_si, sc_nn, decide_true, decide_false, reduceCtorEq, Bool.false_eq_true, if_true, if_false, ite_true, ite_false, exists_const, eq_self, false_and, and_false, or_false, false_or, exists_false, Evl.rLenS, rSum, wipe, tYes, exists_eq, exists_eq', rIxL, rIxT, rIxS, exists_and_right, gt_iff_lt, not_true_eq_false, not_false_eq_true, Bool.not_true, Bool.not_false, decide_eq_true_eq, Nat.reduceSub, Nat.reduceAdd, List.append_assoc, tChain, tDIn, tDNotIn, sDDel, tAug, ipI, rInt1_int, rInt1_bl]
      refine ⟨_, .inl (sq_l (k0 _ _ not0 ha)), ?_⟩
      rw [hus.len]
      exact h
    · rintro j σ H2 hj ⟨vs, c3, c4, c5, rfl, hp2, hr2, k2⟩
      try simp (maxSteps := 1000000) only [tSeq, tIfS, tTest, tOp, tUn, tCB, tCons, tNil, tVar, tC, rI0, rI, rU, rEq, rNe, tRet, tRetN, tAsg, gName, gSub, tBM, tBM0, tNext, tB, tNot, tAnd, tOr, tIf, tCall, tDrop, tBreak, tCont, L2.start, tDGet, sDPut, tTup, tLst, tDNewK, tRevL, rCat, rAppend, rPop, rSetL, tAndV, tOrV, tNotV, tSl, tPart, tNoPart, tM1, gTup, gCons, gNil, cxK, cxnK, List.map_cons, List.map_nil, List.length_cons, List.length_nil, List.replicate, List.cons_append, List.nil_append, List.append_nil, List.set_cons_zero, List.set_cons_succ, List.getElem?_cons_zero, List.getElem?_cons_succ, Option.some.injEq, V.ref.injEq, V.int.injEq, V.str.injEq, V.bl.injEq, V.ty.injEq, exists_eq_left', exists_eq_left, exists_and_left, List.cons.injEq, and_true, true_and, sc_ii, sc_ss, sc_bb, sc_ni, sc_in, sc_is, sc_si, sc_nn, decide_true, decide_false, reduceCtorEq, Bool.false_eq_true, if_true, if_false, ite_true, ite_false, exists_const, eq_self, false_and, and_false, or_false, false_or, exists_false, Evl.rLenS, rSum, wipe, tYes, exists_eq, exists_eq', rIxL, rIxT, rIxS, exists_and_right, gt_iff_lt, not_true_eq_false, not_false_eq_true, Bool.not_true, Bool.not_false, decide_eq_true_eq, Nat.reduceSub, Nat.reduceAdd, List.append_assoc, tChain, tDIn, tDNotIn, sDDel, tAug, ipI, rInt1_int, rInt1_bl]
      obtain ⟨s, es⟩ : ∃ s, sts[j]? = some s := ⟨_, List.getElem?_eq_getElem hj⟩
      have eS : stOf sts (j : Nat) = s := by
        unfold stOf
        rw [Int.toNat_natCast, List.getD_eq_getElem?_getD, es]
        rfl
      obtain ⟨v, ev, hv⟩ := hus.at es
      have hv2 := hv.tp k2.tps
      obtain ⟨sa, g, o, rfl, hsa, hg, ho⟩ := id hv2
      obtain ⟨oa, rfl, hoa⟩ := id ho
      have lc := hl s (List.mem_of_getElem? es)
      obtain ⟨x0, e0⟩ : ∃ x0, s.2[0]? = some x0 := ⟨_, List.getElem?_eq_getElem (by omega)⟩
      have a0 : atI (s.2.map V.int) 0 = some (.int x0) := (show atI _ ((0 : Nat) : Int) = _ from atI_nat (by rw [List.getElem?_map, e0]; rfl))
      refine ⟨_, sq_l (k2 _ _ not0 ha), _, atI_nat ev, sa, rfl, _, sq_t hsa, _, rfl, oa, rfl, _, sq_t hoa, _, a0, ?_⟩
      rw [rInt1_int]
      refine ⟨x0, rfl, by omega, ?_⟩
      obtain ⟨kn, ek, hk⟩ : ∃ kn : Nat, x0 % (c : Nat) = (kn : Nat) ∧ kn < c := ⟨(x0 % (c : Nat)).toNat, by have := Int.emod_nonneg x0 (b := (c : Nat)) (by omega); omega, by have := Int.emod_nonneg x0 (b := (c : Nat)) (by omega); have := Int.emod_lt_of_pos x0 (b := (c : Nat)) (by omega); omega⟩
      rw [ek]
      refine lcRg c (by omega) (fun D i H' => H' D = some (.lst (List.replicate i (V.int 0))) ∧ Kp [] H2 H') (fun R h => ?_) (fun D nD => ⟨upd_same, Kp.new nD⟩) ?_ ?_
      · try simp (maxSteps := 1000000) only [tSeq, tIfS, tTest, tOp, tUn, tCB, tCons, tNil, tVar, tC, rI0, rI, rU, rEq, rNe, tRet, tRetN, tAsg, gName, gSub, tBM, tBM0, tNext, tB, tNot, tAnd, tOr, tIf, tCall, tDrop, tBreak, tCont, L2.start, tDGet, sDPut, tTup, tLst, tDNewK, tRevL, rCat, rAppend, rPop, rSetL, tAndV, tOrV, tNotV, tSl, tPart, tNoPart, tM1, gTup, gCons, gNil, cxK, cxnK, List.map_cons, List.map_nil, List.length_cons, List.length_nil, List.replicate, List.cons_append, List.nil_append, List.append_nil, List.set_cons_zero, List.set_cons_succ, List.getElem?_cons_zero, List.getElem?_cons_succ, Option.some.injEq, V.ref.injEq, V.int.injEq, V.str.injEq, V.bl.injEq, V.ty.injEq, exists_eq_left', exists_eq_left, exists_and_left, List.cons.injEq, and_true, true_and, sc_ii, sc_ss, sc_bb, sc_ni, sc_in, sc_is, sc_si, sc_nn, decide_true, decide_false, reduceCtorEq, Bool.false_eq_true, if_true, if_false, ite_true, ite_false, exists_const, eq_self, false_and, and_false, or_false, false_or, exists_false, Evl.rLenS, rSum, wipe, tYes, exists_eq, exists_eq', rIxL, rIxT, rIxS, exists_and_right, gt_iff_lt, not_true_eq_false, not_false_eq_true, Bool.not_true, Bool.not_false, decide_eq_true_eq, Nat.reduceSub, Nat.reduceAdd, List.append_assoc, tChain, tDIn, tDNotIn, sDDel, tAug, ipI, rInt1_int, rInt1_bl]
        exact h
      · rintro D i H3 nD hi ⟨hD, k3⟩
        refine ⟨by simp [wipe], ?_⟩
        try simp (maxSteps := 1000000) only [tSeq, tIfS, tTest, tOp, tUn, tCB, tCons, tNil, tVar, tC, rI0, rI, rU, rEq, rNe, tRet, tRetN, tAsg, gName, gSub, tBM, tBM0, tNext, tB, tNot, tAnd, tOr, tIf, tCall, tDrop, tBreak, tCont, L2.start, tDGet, sDPut, tTup, tLst, tDNewK, tRevL, rCat, rAppend, rPop, rSetL, tAndV, tOrV, tNotV, tSl, tPart, tNoPart, tM1, gTup, gCons, gNil, cxK, cxnK, List.map_cons, List.map_nil, List.length_cons, List.length_nil, List.replicate, List.cons_append, List.nil_append, List.append_nil, List.set_cons_zero, List.set_cons_succ, List.getElem?_cons_zero, List.getElem?_cons_succ, Option.some.injEq, V.ref.injEq, V.int.injEq, V.str.injEq, V.bl.injEq, V.ty.injEq, exists_eq_left', exists_eq_left, exists_and_left, List.cons.injEq, and_true, true_and, sc_ii, sc_ss, sc_bb, sc_ni, sc_in, sc_is, sc_si, sc_nn, decide_true, decide_false, reduceCtorEq, Bool.false_eq_true, if_true, if_false, ite_true, ite_false, exists_const, eq_self, false_and, and_false, or_false, false_or, exists_false, Evl.rLenS, rSum, wipe, tYes, exists_eq, exists_eq', rIxL, rIxT, rIxS, exists_and_right, gt_iff_lt, not_true_eq_false, not_false_eq_true, Bool.not_true, Bool.not_false, decide_eq_true_eq, Nat.reduceSub, Nat.reduceAdd, List.append_assoc, tChain, tDIn, tDNotIn, sDDel, tAug, ipI, rInt1_int, rInt1_bl]
        refine ⟨_, hD, by rw [List.length_replicate]; exact smallL (by omega), ?_, k3.wr nD⟩
        rw [upd_same, ← List.replicate_succ, List.replicate_succ']
      · rintro D H3 nD ⟨hD, k3⟩
        have eix : ixN (List.replicate c (V.int 0)).length ((kn : Nat) : Int) = some kn := by
          unfold ixN
          rw [List.length_replicate, if_pos (by omega), if_pos (by omega)]
          simp
        refine ⟨_, .inl (sq_l ((k2.trans k3) _ _ not0 ha)), by rw [hus.len]; omega, D, rfl, _, hD, kn, eix, ?_⟩
        rw [hus.len]
        have k4 : Kp [] H2 (upd H3 D (.lst ((List.replicate c (V.int 0)).set kn (V.int (((j : Int) + 1) % (sts.length : Nat)))))) := k3.wr nD
        have hD4 : (upd H3 D (.lst ((List.replicate c (V.int 0)).set kn (V.int (((j : Int) + 1) % (sts.length : Nat)))))) D = some (.lst ((List.replicate c (V.int 0)).set kn (V.int (((j : Int) + 1) % (sts.length : Nat))))) := upd_same
        generalize upd H3 D (.lst ((List.replicate c (V.int 0)).set kn (V.int (((j : Int) + 1) % (sts.length : Nat))))) = H4 at k4 hD4 ⊢
        have hp4 := k4 _ _ not0 hp2
        refine ⟨.inl ⟨rfl, _, sq_l hp4⟩, _, sq_l ((k2.trans k4) _ _ not0 ha), _, atI_nat ev, sa, rfl, _, sq_t (k4 _ _ not0 hsa), _, rfl, ?_⟩
        have eV : (List.replicate c (V.int 0)).set kn (V.int (((j : Int) + 1) % (sts.length : Nat))) = ((List.replicate c (0 : Int)).set kn (((j : Int) + 1) % (sts.length : Nat))).map V.int := by
          rw [List.map_set, List.map_replicate]
        rw [eV] at hD4
        refine ⟨D, rfl, _, .inl ⟨sq_l hD4, fun t nt => ⟨small (by omega), fun u nu => ?_⟩⟩⟩
        have kt := (Kp.new nt : Kp [] H4 (upd H4 t (.tup (((List.replicate c (0 : Int)).set kn (((j : Int) + 1) % (sts.length : Nat))).map V.int))))
        have ht : TI (upd H4 t (.tup (((List.replicate c (0 : Int)).set kn (((j : Int) + 1) % (sts.length : Nat))).map V.int))) (.ref t) ((List.replicate c (0 : Int)).set kn (((j : Int) + 1) % (sts.length : Nat))) := ⟨t, rfl, upd_same⟩
        generalize upd H4 t (.tup (((List.replicate c (0 : Int)).set kn (((j : Int) + 1) % (sts.length : Nat))).map V.int)) = H5 at kt ht nu ⊢
        have k5 := k4.trans kt
        have hS := TSt.make (hg.tp k5.tps) ht nu
        have ku := (Kp.new nu : Kp [] H5 (upd H5 u (.tup [g, .ref t])))
        generalize upd H5 u (.tup [g, .ref t]) = H6 at hS ku ⊢
        have hp6 := (k5.trans ku) _ _ not0 hp2
        have tp : Tp H6 (upd H6 p (.lst (vs ++ [.ref u]))) := (Tp.refl _).putL hp6
        have lv : vs.length ≤ 12 := by rw [hr2.len, List.length_map, List.length_range]; omega
        refine ⟨vs, hp6, smallL (by omega), vs ++ [.ref u], upd_same, ?_, ((k2.trans k5).trans ku).wr np⟩
        rw [List.range_succ, List.map_append, List.map_cons, List.map_nil]
        have eL : ladR sts c j = (s.1, (List.replicate c (0 : Int)).set kn (((j : Int) + 1) % (sts.length : Nat))) := by
          unfold ladR
          rw [eS, List.getD_eq_getElem?_getD, e0]
          show (s.1, (List.replicate c (0 : Int)).set (x0 % (c : Nat)).toNat _) = _
          rw [ek, Int.toNat_natCast]
        rw [eL]
        exact (hr2.mono fun _ _ z => z.tp ((k5.trans ku).tps.trans tp)).snoc (hS.tp tp)
    · rintro σ H2 ⟨vs, c3, c4, c5, rfl, hp2, hr2, k2⟩
      try simp (maxSteps := 1000000) only [tSeq, tIfS, tTest, tOp, tUn, tCB, tCons, tNil, tVar, tC, rI0, rI, rU, rEq, rNe, tRet, tRetN, tAsg, gName, gSub, tBM, tBM0, tNext, tB, tNot, tAnd, tOr, tIf, tCall, tDrop, tBreak, tCont, L2.start, tDGet, sDPut, tTup, tLst, tDNewK, tRevL, rCat, rAppend, rPop, rSetL, tAndV, tOrV, tNotV, tSl, tPart, tNoPart, tM1, gTup, gCons, gNil, cxK, cxnK, List.map_cons, List.map_nil, List.length_cons, List.length_nil, List.replicate, List.cons_append, List.nil_append, List.append_nil, List.set_cons_zero, List.set_cons_succ, List.getElem?_cons_zero, List.getElem?_cons_succ, Option.some.injEq, V.ref.injEq, V.int.injEq, V.str.injEq, V.bl.injEq, V.ty.injEq, exists_eq_left', exists_eq_left, exists_and_left, List.cons.injEq, and_true, true_and, sc_ii, sc_ss, sc_bb, sc_ni, sc_in, sc_is, sc_si, sc_nn, decide_true, decide_false, reduceCtorEq, Bool.false_eq_true, if_true, if_false, ite_true, ite_false, exists_const, eq_self, false_and, and_false, or_false, false_or, exists_false, Evl.rLenS, rSum, wipe, tYes, exists_eq, exists_eq', rIxL, rIxT, rIxS, exists_and_right, gt_iff_lt, not_true_eq_false, not_false_eq_true, Bool.not_true, Bool.not_false, decide_eq_true_eq, Nat.reduceSub, Nat.reduceAdd, List.append_assoc, tChain, tDIn, tDNotIn, sDDel, tAug, ipI, rInt1_int, rInt1_bl]
      exact q p vs H2 np hp2 hr2 k2
end
end My

set_option Elab.async false
set_option linter.all false
set_option maxRecDepth 100000
set_option maxHeartbeats 4000000
namespace My
open PySem L2 NdefX
abbrev s_law_merged : Stmt := top 23
theorem sc_law_merged : FnScope ["_law_groups", "_law_row_here", "_law_out", "_law_k"] ["_law_groups", "_law_row_here"] (defScope s_law_merged) := ⟨rfl, rfl, rfl, by decide +kernel, rfl, by decide +kernel, by decide +kernel⟩
/-- the groups from the first on, each put behind the last one where its digit is odd -/
def mrgR (gs : List (List Int)) (ds : List Int) : Nat → List (List Int)
  | 0 => gs.take 1
  | k + 1 => if ds.getD (k + 1) 0 % 2 = 1 then (mrgR gs ds k).dropLast ++ [(mrgR gs ds k).getLastD [] ++ gs.getD (k + 1) []] else mrgR gs ds k ++ [gs.getD (k + 1) []]
theorem mrg_ex (gs : List (List Int)) (ds : List Int) (h : 1 ≤ gs.length) : ∀ k, k < gs.length → ∃ l z, mrgR gs ds k = l ++ [z] ∧ (l ++ [z]).flatten.length = (gs.take (k + 1)).flatten.length ∧ (l ++ [z]).length ≤ k + 1
  | 0, _ => by
    obtain ⟨g, r, rfl⟩ : ∃ g r, gs = g :: r := by
      cases gs with
      | nil => simp at h
      | cons g r => exact ⟨g, r, rfl⟩
    exact ⟨[], g, rfl, by simp, by simp⟩
  | k + 1, hk => by
    obtain ⟨l, z, e, hl, hn⟩ := mrg_ex gs ds h k (by omega)
    have eg : gs[k + 1]? = some (gs.getD (k + 1) []) := by
      rw [List.getD_eq_getElem?_getD, List.getElem?_eq_getElem hk]
      rfl
    have et : (gs.take (k + 1 + 1)).flatten.length = (gs.take (k + 1)).flatten.length + (gs.getD (k + 1) []).length := by
      rw [List.take_add_one, eg]
      simp
    unfold mrgR
    rw [e, List.dropLast_concat, List.getLastD_concat]
    split
    · refine ⟨l, z ++ gs.getD (k + 1) [], rfl, ?_, by simp at hn ⊢; omega⟩
      rw [et, ← hl]
      simp
      omega
    · refine ⟨l ++ [z], gs.getD (k + 1) [], rfl, ?_, by simp at hn ⊢; omega⟩
      rw [et, ← hl]
      simp
      try omega
theorem catI {K : PySem.W.Frag} {H : Hp} {a b : Addr} {xs ys : List Int} {Q : VK} (hx : H a = some (.tup (xs.map V.int))) (hy : H b = some (.tup (ys.map V.int))) (hl : xs.length + ys.length ≤ 100) (q : ∀ c H', TI H' (.ref c) (xs ++ ys) → Kp [] H H' → Q (.ref c) H') : rCatA K (.ref a) (.ref b) H Q := by
  refine ⟨a, b, _, _, rfl, rfl, sq_t hx, sq_t hy, by rw [List.length_map, List.length_map]; exact small (by omega), fun e => q _ _ ?_ (Kp.refl _ _), fun _ e => q _ _ ?_ (Kp.refl _ _), fun _ _ p np => q _ _ ⟨p, rfl, by rw [List.map_append]; exact upd_same⟩ (Kp.new np)⟩
  · rw [List.map_eq_nil_iff.mp e]
    exact ⟨b, rfl, hy⟩
  · rw [List.map_eq_nil_iff.mp e, List.append_nil]
    exact ⟨a, rfl, hx⟩
section
variable {P : Program} {w : World} {K : PySem.W.Frag} {mg : Str → Option Value} {base : Heap} {t1 t2 : Tok}
def spMrg : Sp := fun vs H Q _ => ∃ (v : V) (d : Addr) (gs : List (List Int)) (ds : List Int), vs = [v, .ref d] ∧ TGs H v gs ∧ H d = some (.lst (ds.map V.int)) ∧ 1 ≤ gs.length ∧ gs.length ≤ 9 ∧ gs.length ≤ ds.length ∧ gs.flatten.length ≤ 50 ∧ ∀ u H', TGs H' u (mrgR gs ds (gs.length - 1)) → Kp [] H H' → Q u H'
theorem ok_law_merged {f : Addr} {fd : FuncData} (D : Df K mg "_law_merged" s_law_merged ["_law_groups", "_law_row_here"] f fd) (T : BtW mg) : FnOk P w K mg base CX0 1 f fd ["_law_groups", "_law_row_here"] spMrg := by
  refine D.F.ok sc_law_merged (fun vs H Q E h => ?_) (fun cdv A outer s H vs Q E hr h => ?_)
  · obtain ⟨_, _, _, _, rfl, _⟩ := h
    rfl
  · obtain ⟨v, d, gs, ds, rfl, hv, hd, g1, g9, gd, gf, q⟩ := h
    obtain ⟨a, us, rfl, ha, hus⟩ := id hv
    refine ⟨_, (pss_cons (ps_set (i := 2) sc_law_merged.nd rfl (Or.inl rfl) (pe_lst (pa_cons (pe_ix (r := rIxT K) ix_tup (pv 0) pe_int (fun _ _ => rfl)) pa_nil)))
      (pss_cons (ps_for PassesOwn.never rfl (pi_range2 rfl T.b_range (pa_cons pe_int (pa_cons (pe_callB (id := "len") (r := Evl.rLenS K) call_len_seq (by rfl) T.b_len PySem.boot_len (pa_cons (pv 0) pa_nil)) pa_nil))) (pg_name (i := 3) sc_law_merged.nd rfl (Or.inl rfl)) (pss_one (ps_if (pt_cmpR op_eq (pe_op op_mod (pe_callTy (T := "int") (r := rInt1) call_int1 (by rfl) T.b_int (by decide +kernel) (pa_cons (pe_ix (r := rIxL K) ix_list (pv 1) (pv 3) (fun _ _ => rfl)) pa_nil)) pe_int) pe_int (nomark _)) (pss_one (ps_asg (pe_op op_catA (pe_ix (r := rIxL K) ix_list (pv 2) (pe_un un_neg pe_int) (fun _ _ => rfl)) (pe_ix (r := rIxT K) ix_tup (pv 0) (pv 3) (fun _ _ => rfl))) (pg_sub (pv 2) (pe_un un_neg pe_int) set_list))) (pss_one (ps_expr (pe_bm PySem.F.plainAttrs_list PySem.F.slot_list_append PySem.F.type_list_append mt_append (pv 2) (pa_cons (pe_ix (r := rIxT K) ix_tup (pv 0) (pv 3) (fun _ _ => rfl)) pa_nil)))))))
      (pss_one (ps_ret (pe_callTy call_tuple_of (by rfl) T.b_tuple (by decide +kernel) (pa_cons (pv 2) pa_nil)))))), ?_⟩
    try simp (maxSteps := 1000000) only [tSeq, tIfS, tTest, tOp, tUn, tCB, tCons, tNil, tVar, tC, rI0, rI, rU, rEq, rNe, tRet, tRetN, tAsg, gName, gSub, tBM, tBM0, tNext, tB, tNot, tAnd, tOr, tIf, tCall, tDrop, tBreak, tCont, L2.start, tDGet, sDPut, tTup, tLst, tDNewK, tRevL, rCat, rAppend, rPop, rSetL, tAndV, tOrV, tNotV, tSl, tPart, tNoPart, tM1, gTup, gCons, gNil, cxK, cxnK, List.map_cons, List.map_nil, List.length_cons, List.length_nil, List.replicate, List.cons_append, List.nil_append, List.append_nil, List.set_cons_zero, List.set_cons_succ, List.getElem?_cons_zero, List.getElem?_cons_succ, Option.some.injEq, V.ref.injEq, V.int.injEq, V.str.injEq, V.bl.injEq, V.ty.injEq, exists_eq_left', exists_eq_left, exists_and_left, List.cons.injEq, and_true, true_and, sc_ii, sc_ss, sc_bb, sc_ni, sc_in, sc_is, sc_si, sc_nn, decide_true, decide_false, reduceCtorEq, Bool.false_eq_true, if_true, if_false, ite_true, ite_false, exists_const, eq_self, false_and, and_false, or_false, false_or, exists_false, Evl.rLenS, rSum, wipe, tYes, exists_eq, exists_eq', rIxL, rIxT, rIxS, exists_and_right, gt_iff_lt, not_true_eq_false, not_false_eq_true, Bool.not_true, Bool.not_false, decide_eq_true_eq, Nat.reduceSub, Nat.reduceAdd, List.append_assoc, tChain, tDIn, tDNotIn, sDDel, tAug, ipI, rInt1_int, rInt1_bl]
    obtain ⟨g0, e0⟩ : ∃ g0, gs[0]? = some g0 := ⟨_, List.getElem?_eq_getElem (by omega)⟩
    obtain ⟨v0, ev0, hv0⟩ := hus.at e0
    have a0 : atI us 0 = some v0 := (show atI _ ((0 : Nat) : Int) = _ from atI_nat ev0)
    refine ⟨us, sq_t ha, v0, a0, small (by decide), fun p np => ?_⟩
    have k0 := (Kp.new np : Kp [] H (upd H p (.lst [v0])))
    have hp : (upd H p (.lst [v0])) p = some (.lst [v0]) := upd_same
    have h0 : Rw (TI (upd H p (.lst [v0]))) [v0] (mrgR gs ds 0) := by
      have : mrgR gs ds 0 = [g0] := by
        unfold mrgR
        cases gs with
        | nil => simp at e0
        | cons g r => cases e0; rfl
      rw [this]
      exact .cons (hv0.tp k0.tps) .nil
    generalize upd H p (.lst [v0]) = H1 at k0 hp h0 ⊢
    refine forN2 1 gs.length (by decide) (by omega) (fun i σ H' => ∃ (ws : List V) (c3 : Option V), σ = [some (.ref a), some (.ref d), some (.ref p), c3] ∧ H' p = some (.lst ws) ∧ Rw (TI H') ws (mrgR gs ds i) ∧ Kp [] H H') ?_ ?_ ?_ ?_
    · intro R hR'
      try simp (maxSteps := 1000000) only [tSeq, tIfS, tTest, tOp, tUn, tCB, tCons, tNil, tVar, tC, rI0, rI, rU, rEq, rNe, tRet, tRetN, tAsg, gName, gSub, tBM, tBM0, tNext, tB, tNot, tAnd, tOr, tIf, tCall, tDrop, tBreak, tCont, L2.start, tDGet, sDPut, tTup, tLst, tDNewK, tRevL, rCat, rAppend, rPop, rSetL, tAndV, tOrV, tNotV, tSl, tPart, tNoPart, tM1, gTup, gCons, gNil, cxK, cxnK, List.map_cons, List.map_nil, List.length_cons, List.length_nil, List.replicate, List.cons_append, List.nil_append, List.append_nil, List.set_cons_zero, List.set_cons_succ, List.getElem?_cons_zero, List.getElem?_cons_succ, Option.some.injEq, V.ref.injEq, V.int.injEq, V.str.injEq, V.bl.injEq, V.ty.injEq, exists_eq_left', exists_eq_left, exists_and_left, List.cons.injEq, and_true, true_and, sc_ii, sc_ss, sc_bb, sc_ni, sc_in, sc_is, sc_si, sc_nn, decide_true, decide_false, reduceCtorEq, Bool.false_eq_true, if_true, if_false, ite_true, ite_false, exists_const, eq_self, false_and, and_false, or_false, false_or, exists_false, Evl.rLenS, rSum, wipe, tYes, exists_eq, exists_eq', rIxL, rIxT, rIxS, exists_and_right, gt_iff_lt, not_true_eq_false, not_false_eq_true, Bool.not_true, Bool.not_false, decide_eq_true_eq, Nat.reduceSub, Nat.reduceAdd, List.append_assoc, tChain, tDIn, tDNotIn, sDDel, tAug, ipI, rInt1_int, rInt1_bl]
      refine ⟨_, .inr (sq_t (k0 _ _ not0 ha)), ?_⟩
      rw [hus.len]
      exact hR' _ (Kp.refl _ _)
    · exact fun H2 k2 => ⟨_, _, rfl, k2 _ _ not0 hp, h0.mono fun _ _ z => z.tp k2.tps, k0.trans k2⟩
    · rintro j σ H2 hj ⟨ws, c3, rfl, hp2, hr2, k2⟩
      try simp (maxSteps := 1000000) only [tSeq, tIfS, tTest, tOp, tUn, tCB, tCons, tNil, tVar, tC, rI0, rI, rU, rEq, rNe, tRet, tRetN, tAsg, gName, gSub, tBM, tBM0, tNext, tB, tNot, tAnd, tOr, tIf, tCall, tDrop, tBreak, tCont, L2.start, tDGet, sDPut, tTup, tLst, tDNewK, tRevL, rCat, rAppend, rPop, rSetL, tAndV, tOrV, tNotV, tSl, tPart, tNoPart, tM1, gTup, gCons, gNil, cxK, cxnK, List.map_cons, List.map_nil, List.length_cons, List.length_nil, List.replicate, List.cons_append, List.nil_append, List.append_nil, List.set_cons_zero, List.set_cons_succ, List.getElem?_cons_zero, List.getElem?_cons_succ, Option.some.injEq, V.ref.injEq, V.int.injEq, V.str.injEq, V.bl.injEq, V.ty.injEq, exists_eq_left', exists_eq_left, exists_and_left, List.cons.injEq, and_true, true_and, sc_ii, sc_ss, sc_bb, sc_ni, sc_in, sc_is, sc_si, sc_nn, decide_true, decide_false, reduceCtorEq, Bool.false_eq_true, if_true, if_false, ite_true, ite_false, exists_const, eq_self, false_and, and_false, or_false, false_or, exists_false, Evl.rLenS, rSum, wipe, tYes, exists_eq, exists_eq', rIxL, rIxT, rIxS, exists_and_right, gt_iff_lt, not_true_eq_false, not_false_eq_true, Bool.not_true, Bool.not_false, decide_eq_true_eq, Nat.reduceSub, Nat.reduceAdd, List.append_assoc, tChain, tDIn, tDNotIn, sDDel, tAug, ipI, rInt1_int, rInt1_bl]
      have jg : j + 1 < gs.length := by omega
      obtain ⟨l, z, eM, hfl, hn⟩ := mrg_ex gs ds g1 j (by omega)
      obtain ⟨x, ex⟩ : ∃ x, ds[j + 1]? = some x := ⟨_, List.getElem?_eq_getElem (by omega)⟩
      obtain ⟨g, eg⟩ : ∃ g, gs[j + 1]? = some g := ⟨_, List.getElem?_eq_getElem jg⟩
      have eS : mrgR gs ds (j + 1) = if x % 2 = 1 then l ++ [z ++ g] else (l ++ [z]) ++ [g] := by
        show (if ds.getD (j + 1) 0 % 2 = 1 then (mrgR gs ds j).dropLast ++ [(mrgR gs ds j).getLastD [] ++ gs.getD (j + 1) []] else mrgR gs ds j ++ [gs.getD (j + 1) []]) = _
        rw [eM, List.dropLast_concat, List.getLastD_concat, List.getD_eq_getElem?_getD, List.getD_eq_getElem?_getD, ex, eg]
        rfl
      rw [eM] at hr2
      have hus2 := hus.mono fun _ _ z => z.tp k2.tps
      obtain ⟨vg, evg, hvg⟩ := hus2.at eg
      obtain ⟨ga, rfl, hga⟩ := id hvg
      have lw : ws.length = l.length + 1 := by rw [hr2.len]; simp
      obtain ⟨vz, evz, hvz⟩ := hr2.at (i := l.length) (g := z) (by simp)
      obtain ⟨za, rfl, hza⟩ := id hvz
      have aL : atI ws (-1) = some (.ref za) := by
        unfold atI
        rw [lw, ixN_last]
        exact evz
      have d1 : atI (ds.map V.int) ((1 + j : Nat) : Int) = some (.int x) := atI_nat (by rw [List.getElem?_map, show 1 + j = j + 1 by omega, ex]; rfl)
      have g1' : atI us ((1 + j : Nat) : Int) = some (.ref ga) := atI_nat (by rw [show 1 + j = j + 1 by omega]; exact evg)
      have lwS : ws.length ≤ 10 := by rw [hr2.len]; omega
      refine ⟨_, sq_l (k2 _ _ not0 hd), _, d1, ?_⟩
      rw [rInt1_int]
      refine ⟨x, rfl, by decide, ?_⟩
      have zg : z.length + g.length ≤ 60 := by
        have h1 : (gs.take (j + 1)).flatten.length ≤ gs.flatten.length := by
          conv => rhs; rw [← List.take_append_drop (j + 1) gs]
          rw [List.flatten_append, List.length_append]
          omega
        have h2 : (gs.take (j + 1 + 1)).flatten.length ≤ gs.flatten.length := by
          conv => rhs; rw [← List.take_append_drop (j + 1 + 1) gs]
          rw [List.flatten_append, List.length_append]
          omega
        rw [← hfl] at h1
        have hz : z.length ≤ (l ++ [z]).flatten.length := by rw [List.flatten_append, List.length_append]; simp
        have h3 : (gs.take (j + 1 + 1)).flatten.length = (gs.take (j + 1)).flatten.length + g.length := by
          rw [List.take_add_one, eg, List.flatten_append, List.length_append]
          simp
        omega
      by_cases hx : x % 2 = 1
      · rw [if_pos hx]
        rw [if_pos hx] at eS
        refine ⟨_, sq_l hp2, _, aL, _, sq_t (k2 _ _ not0 ha), _, g1', catI hza hga (by omega) fun c H3 hc k3 => ?_⟩
        refine ⟨ws, k3 _ _ not0 hp2, l.length, by rw [lw]; exact ixN_last, _, upd_same, ?_, (k2.trans k3).wr np⟩
        rw [eS]
        have tp : Tp H3 (upd H3 p (.lst (ws.set l.length (.ref c)))) := (Tp.refl _).putL (k3 _ _ not0 hp2)
        have := ((hr2.mono fun _ _ z => z.tp k3.tps).set l.length hc).mono fun _ _ z => z.tp tp
        rwa [show (l ++ [z]).set l.length (z ++ g) = l ++ [z ++ g] by simp] at this
      · rw [if_neg hx]
        rw [if_neg hx] at eS
        refine ⟨.inl ⟨rfl, _, sq_l hp2⟩, _, sq_t (k2 _ _ not0 ha), _, g1', ws, hp2, smallL (by omega), _, upd_same, ?_, k2.wr np⟩
        rw [eS]
        have tp : Tp H2 (upd H2 p (.lst (ws ++ [.ref ga]))) := (Tp.refl _).putL hp2
        exact (hr2.snoc hvg).mono fun _ _ z => z.tp tp
    · rintro σ H2 ⟨ws, c3, rfl, hp2, hr2, k2⟩
      try simp (maxSteps := 1000000) only [tSeq, tIfS, tTest, tOp, tUn, tCB, tCons, tNil, tVar, tC, rI0, rI, rU, rEq, rNe, tRet, tRetN, tAsg, gName, gSub, tBM, tBM0, tNext, tB, tNot, tAnd, tOr, tIf, tCall, tDrop, tBreak, tCont, L2.start, tDGet, sDPut, tTup, tLst, tDNewK, tRevL, rCat, rAppend, rPop, rSetL, tAndV, tOrV, tNotV, tSl, tPart, tNoPart, tM1, gTup, gCons, gNil, cxK, cxnK, List.map_cons, List.map_nil, List.length_cons, List.length_nil, List.replicate, List.cons_append, List.nil_append, List.append_nil, List.set_cons_zero, List.set_cons_succ, List.getElem?_cons_zero, List.getElem?_cons_succ, Option.some.injEq, V.ref.injEq, V.int.injEq, V.str.injEq, V.bl.injEq, V.ty.injEq, exists_eq_left', exists_eq_left, exists_and_left, List.cons.injEq, and_true, true_and, sc_ii, sc_ss, sc_bb, sc_ni, sc_in, sc_is, sc_si, sc_nn, decide_true, decide_false, reduceCtorEq, Bool.false_eq_true, if_true, if_false, ite_true, ite_false, exists_const, eq_self, false_and, and_false, or_false, false_or, exists_false, Evl.rLenS, rSum, wipe, tYes, exists_eq, exists_eq', rIxL, rIxT, rIxS, exists_and_right, gt_iff_lt, not_true_eq_false, not_false_eq_true, Bool.not_true, Bool.not_false, decide_eq_true_eq, Nat.reduceSub, Nat.reduceAdd, List.append_assoc, tChain, tDIn, tDNotIn, sDDel, tAug, ipI, rInt1_int, rInt1_bl]
      refine ⟨ws, .inl ⟨sq_l hp2, fun u nu => ?_⟩⟩
      have ku := (Kp.new nu : Kp [] H2 (upd H2 u (.tup ws)))
      have e : 1 + (gs.length - 1) = gs.length := by omega
      exact q _ _ ⟨u, ws, rfl, upd_same, hr2.mono fun _ _ z => z.tp ku.tps⟩ (k2.trans ku)
end
end My

set_option Elab.async false
set_option linter.all false
set_option maxRecDepth 100000
set_option maxHeartbeats 4000000
namespace My
open PySem L2 NdefX
abbrev s_law_lets : Stmt := top 26
theorem sc_law_lets : FnScope ["_law_groups", "_law_pair", "_law_group", "_law_one"] ["_law_groups", "_law_pair"] (defScope s_law_lets) := ⟨rfl, rfl, rfl, by decide +kernel, rfl, by decide +kernel, by decide +kernel⟩
theorem in_rw : ∀ {c : List Int}, Rw (fun v x => v = V.int x) (c.map V.int) c
  | [] => .nil
  | _ :: _ => .cons rfl in_rw
/-- in the first group in which one of the able stands: is it there? -/
def letG (able : List Int) (one : Int) : List (List Int) → Bool
  | [] => false
  | g :: r => if able.any (fun k => decide (k ∈ g)) then decide (one ∈ g) else letG able one r
section
variable {P : Program} {w : World} {K : PySem.W.Frag} {mg : Str → Option Value} {base : Heap} {t1 t2 : Tok}
def spLetG : Sp := fun vs H Q _ => ∃ (v : V) (t : Addr) (ta : V) (gs : List (List Int)) (able : List Int) (one : Int), vs = [v, .ref t] ∧ TGs H v gs ∧ H t = some (.tup [ta, .int one]) ∧ TI H ta able ∧ able.length ≤ 100 ∧ ∀ H', Kp [] H H' → Q (.bl (letG able one gs)) H'
theorem ok_law_lets {f : Addr} {fd : FuncData} (D : Df K mg "_law_lets" s_law_lets ["_law_groups", "_law_pair"] f fd) (T : BtW mg) : FnOk P w K mg base CX0 1 f fd ["_law_groups", "_law_pair"] spLetG := by
  refine D.F.ok sc_law_lets (fun vs H Q E h => ?_) (fun cdv A outer s H vs Q E hr h => ?_)
  · obtain ⟨_, _, _, _, _, _, rfl, _⟩ := h
    rfl
  · obtain ⟨v, t, ta, gs, able, one, rfl, hv, ht, hta, la, q⟩ := h
    obtain ⟨a, us, rfl, ha, hus⟩ := id hv
    obtain ⟨ab, rfl, hab⟩ := id hta
    refine ⟨_, (pss_cons (ps_for PassesOwn.never rfl (pi_tup (pv 0)) (pg_name (i := 2) sc_law_lets.nd rfl (Or.inr rfl)) (pss_one (ps_if (pt_cmpR op_gt (pe_callB (id := "len") (r := Evl.rLenS K) call_len_seq (by rfl) T.b_len PySem.boot_len (pa_cons (pe_lc (own := [("_law_one", 3)]) (g := (gName 3)) rfl sc_law_lets.nd (pi_tup (pe_ix (r := rIxT K) ix_tup (pv 1) pe_int (fun _ _ => rfl))) (blkOk_by (N := ["_law_groups", "_law_pair", "_law_group", "_law_one"]) (sc := defScope s_law_lets) (by decide +kernel)) (fun _ _ _ _ _ => (pg_name (i := 3) sc_law_lets.nd rfl (Or.inl rfl))) (fun _ _ _ _ _ => (pts_one (pt_cmpR (r := rIn K false) op_in_seq (pv 3) (pv 2) (by rfl)))) (fun _ _ _ _ _ => (pv 3))) pa_nil)) pe_int (nomark _)) (pss_one (ps_ret (pe_cmpR op_in_seq (pe_ix (r := rIxT K) ix_tup (pv 1) pe_int (fun _ _ => rfl)) (pv 2) (by rfl)))) pss_nil)))
      (pss_one (ps_ret pe_bl))), ?_⟩
    try simp (maxSteps := 1000000) only [tSeq, tIfS, tTest, tOp, tUn, tCB, tCons, tNil, tVar, tC, rI0, rI, rU, rEq, rNe, tRet, tRetN, tAsg, gName, gSub, tBM, tBM0, tNext, tB, tNot, tAnd, tOr, tIf, tCall, tDrop, tBreak, tCont, L2.start, tDGet, sDPut, tTup, tLst, tDNewK, tRevL, rCat, rAppend, rPop, rSetL, tAndV, tOrV, tNotV, tSl, tPart, tNoPart, tM1, gTup, gCons, gNil, cxK, cxnK, List.map_cons, List.map_nil, List.length_cons, List.length_nil, List.replicate, List.cons_append, List.nil_append, List.append_nil, List.set_cons_zero, List.set_cons_succ, List.getElem?_cons_zero, List.getElem?_cons_succ, Option.some.injEq, V.ref.injEq, V.int.injEq, V.str.injEq, V.bl.injEq, V.ty.injEq, exists_eq_left', exists_eq_left, exists_and_left, List.cons.injEq, and_true, true_and, sc_ii, sc_ss, sc_bb, sc_ni, sc_in, sc_is, sc_si, sc_nn, decide_true, decide_false, reduceCtorEq, Bool.false_eq_true, if_true, if_false, ite_true, ite_false, exists_const, eq_self, false_and, and_false, or_false, false_or, exists_false, Evl.rLenS, rSum, wipe, tYes, exists_eq, exists_eq', rIxL, rIxT, rIxS, exists_and_right, gt_iff_lt, not_true_eq_false, not_false_eq_true, Bool.not_true, Bool.not_false, decide_eq_true_eq, Nat.reduceSub, Nat.reduceAdd, List.append_assoc, tChain, tDIn, tDNotIn, sDDel, tAug, ipI, rInt1_int, rInt1_bl]
    refine ⟨_, rfl, a, rfl, ⟨us, sq_t ha⟩, for_tup (K := K) (xs := us) (fun i σ H' => ∃ (c2 : Option V), σ = [some (.ref a), some (.ref t), c2, none] ∧ Kp [] H H' ∧ letG able one gs = letG able one (gs.drop i)) ⟨_, rfl, Kp.refl _ _, rfl⟩ (fun i σ H' _ h => by obtain ⟨_, _, k, _⟩ := h; exact sq_t (k _ _ not0 ha)) ?_ ?_⟩
    · rintro i x σ H1 hi ⟨c2, rfl, k1, e1⟩
      obtain ⟨g, eg, hx⟩ := hus.get hi
      have hx1 := hx.tp k1.tps
      obtain ⟨ga, rfl, hga⟩ := id hx1
      try simp (maxSteps := 1000000) only [tSeq, tIfS, tTest, tOp, tUn, tCB, tCons, tNil, tVar, tC, rI0, rI, rU, rEq, rNe, tRet, tRetN, tAsg, gName, gSub, tBM, tBM0, tNext, tB, tNot, tAnd, tOr, tIf, tCall, tDrop, tBreak, tCont, L2.start, tDGet, sDPut, tTup, tLst, tDNewK, tRevL, rCat, rAppend, rPop, rSetL, tAndV, tOrV, tNotV, tSl, tPart, tNoPart, tM1, gTup, gCons, gNil, cxK, cxnK, List.map_cons, List.map_nil, List.length_cons, List.length_nil, List.replicate, List.cons_append, List.nil_append, List.append_nil, List.set_cons_zero, List.set_cons_succ, List.getElem?_cons_zero, List.getElem?_cons_succ, Option.some.injEq, V.ref.injEq, V.int.injEq, V.str.injEq, V.bl.injEq, V.ty.injEq, exists_eq_left', exists_eq_left, exists_and_left, List.cons.injEq, and_true, true_and, sc_ii, sc_ss, sc_bb, sc_ni, sc_in, sc_is, sc_si, sc_nn, decide_true, decide_false, reduceCtorEq, Bool.false_eq_true, if_true, if_false, ite_true, ite_false, exists_const, eq_self, false_and, and_false, or_false, false_or, exists_false, Evl.rLenS, rSum, wipe, tYes, exists_eq, exists_eq', rIxL, rIxT, rIxS, exists_and_right, gt_iff_lt, not_true_eq_false, not_false_eq_true, Bool.not_true, Bool.not_false, decide_eq_true_eq, Nat.reduceSub, Nat.reduceAdd, List.append_assoc, tChain, tDIn, tDNotIn, sDDel, tAug, ipI, rInt1_int, rInt1_bl]
      have ht1 := k1 _ _ not0 ht
      have hab1 := k1 _ _ not0 hab
      have ed : gs.drop i = g :: gs.drop (i + 1) := by
        obtain ⟨hl, e⟩ := List.getElem?_eq_some_iff.mp eg
        rw [← e]
        exact List.drop_eq_getElem_cons hl
      refine lcG (R := fun _ v x => v = V.int x) (R2 := fun _ v x => v = V.int x) (fun _ _ _ _ _ h => h) (fun _ _ _ _ _ h => h) (fun k => decide (k ∈ g)) id (src_tup (fun R q' => ⟨_, rfl, _, _, _, _, rfl, rfl, sq_t ht1, rfl, q'⟩) (sq_t hab1)) in_rw (by omega) (fun v k H2 N N0 hk hv k2 hN hN0 => ?_) fun D us2 H2 nD hD hrw k2 => ?_
      · subst hv
        refine ⟨by simp [wipe], ?_⟩
        try simp (maxSteps := 1000000) only [tSeq, tIfS, tTest, tOp, tUn, tCB, tCons, tNil, tVar, tC, rI0, rI, rU, rEq, rNe, tRet, tRetN, tAsg, gName, gSub, tBM, tBM0, tNext, tB, tNot, tAnd, tOr, tIf, tCall, tDrop, tBreak, tCont, L2.start, tDGet, sDPut, tTup, tLst, tDNewK, tRevL, rCat, rAppend, rPop, rSetL, tAndV, tOrV, tNotV, tSl, tPart, tNoPart, tM1, gTup, gCons, gNil, cxK, cxnK, List.map_cons, List.map_nil, List.length_cons, List.length_nil, List.replicate, List.cons_append, List.nil_append, List.append_nil, List.set_cons_zero, List.set_cons_succ, List.getElem?_cons_zero, List.getElem?_cons_succ, Option.some.injEq, V.ref.injEq, V.int.injEq, V.str.injEq, V.bl.injEq, V.ty.injEq, exists_eq_left', exists_eq_left, exists_and_left, List.cons.injEq, and_true, true_and, sc_ii, sc_ss, sc_bb, sc_ni, sc_in, sc_is, sc_si, sc_nn, decide_true, decide_false, reduceCtorEq, Bool.false_eq_true, if_true, if_false, ite_true, ite_false, exists_const, eq_self, false_and, and_false, or_false, false_or, exists_false, Evl.rLenS, rSum, wipe, tYes, exists_eq, exists_eq', rIxL, rIxT, rIxS, exists_and_right, gt_iff_lt, not_true_eq_false, not_false_eq_true, Bool.not_true, Bool.not_false, decide_eq_true_eq, Nat.reduceSub, Nat.reduceAdd, List.append_assoc, tChain, tDIn, tDNotIn, sDDel, tAug, ipI, rInt1_int, rInt1_bl]
        refine ⟨ga, _, rfl, .inr (sq_t (k2 _ _ not0 hga)), rfl, flat_ints _, _, rfl, ?_⟩
        simp only [Bool.false_eq_true, if_false, inV_int]
        by_cases h : k ∈ g
        · rw [decide_eq_true h, if_pos rfl]
          exact hN (decide_eq_true h) _ _ rfl (Kp.refl _ _)
        · rw [decide_eq_false h, if_neg (by decide)]
          exact hN0 (decide_eq_false h) _ (Kp.refl _ _)
      · rw [List.map_id] at hrw
        refine ⟨D, rfl, _, .inl (sq_l hD), ?_⟩
        rw [hrw.len]
        by_cases h : able.any (fun k => decide (k ∈ g)) = true
        · obtain ⟨k, hk, hkg⟩ := List.any_eq_true.mp h
          have : 0 < (able.filter fun k => decide (k ∈ g)).length := List.length_pos_of_mem (List.mem_filter.mpr ⟨hk, hkg⟩)
          rw [if_pos (by omega)]
          refine ⟨_, sq_t (k2 _ _ not0 ht1), _, rfl, ga, _, rfl, .inr (sq_t (k2 _ _ not0 hga)), rfl, flat_ints _, ?_⟩
          simp only [Bool.false_eq_true, if_false, inV_int]
          have := q H2 (k1.trans k2)
          rw [e1, ed] at this
          unfold letG at this
          rw [if_pos h] at this
          exact this
        · have e0 : (able.filter fun k => decide (k ∈ g)) = [] := by
            rw [List.filter_eq_nil_iff]
            exact fun k hk hkg => h (List.any_eq_true.mpr ⟨k, hk, hkg⟩)
          rw [e0, if_neg (by simp)]
          refine ⟨k1.trans k2, ?_⟩
          rw [e1, ed]
          show (if able.any (fun k => decide (k ∈ g)) = true then decide (one ∈ g) else letG able one (gs.drop (i + 1))) = _
          rw [if_neg h]
    · rintro σ H1 ⟨c2, rfl, k1, e1⟩
      try simp (maxSteps := 1000000) only [tSeq, tIfS, tTest, tOp, tUn, tCB, tCons, tNil, tVar, tC, rI0, rI, rU, rEq, rNe, tRet, tRetN, tAsg, gName, gSub, tBM, tBM0, tNext, tB, tNot, tAnd, tOr, tIf, tCall, tDrop, tBreak, tCont, L2.start, tDGet, sDPut, tTup, tLst, tDNewK, tRevL, rCat, rAppend, rPop, rSetL, tAndV, tOrV, tNotV, tSl, tPart, tNoPart, tM1, gTup, gCons, gNil, cxK, cxnK, List.map_cons, List.map_nil, List.length_cons, List.length_nil, List.replicate, List.cons_append, List.nil_append, List.append_nil, List.set_cons_zero, List.set_cons_succ, List.getElem?_cons_zero, List.getElem?_cons_succ, Option.some.injEq, V.ref.injEq, V.int.injEq, V.str.injEq, V.bl.injEq, V.ty.injEq, exists_eq_left', exists_eq_left, exists_and_left, List.cons.injEq, and_true, true_and, sc_ii, sc_ss, sc_bb, sc_ni, sc_in, sc_is, sc_si, sc_nn, decide_true, decide_false, reduceCtorEq, Bool.false_eq_true, if_true, if_false, ite_true, ite_false, exists_const, eq_self, false_and, and_false, or_false, false_or, exists_false, Evl.rLenS, rSum, wipe, tYes, exists_eq, exists_eq', rIxL, rIxT, rIxS, exists_and_right, gt_iff_lt, not_true_eq_false, not_false_eq_true, Bool.not_true, Bool.not_false, decide_eq_true_eq, Nat.reduceSub, Nat.reduceAdd, List.append_assoc, tChain, tDIn, tDNotIn, sDDel, tAug, ipI, rInt1_int, rInt1_bl]
      have := q H1 k1
      rw [e1, hus.len, List.drop_length] at this
      exact this
end
end My

set_option Elab.async false
set_option linter.all false
set_option maxRecDepth 100000
set_option maxHeartbeats 4000000
namespace My
open PySem L2 NdefX
abbrev s_able_tuples : Stmt := top 17
theorem sc_able_tuples : FnScope ["callers", "found", "caller", "able"] ["callers"] (defScope s_able_tuples) := ⟨rfl, rfl, rfl, by decide +kernel, rfl, by decide +kernel, by decide +kernel⟩
/-! ### sorted lists of known things -/
theorem srt_rw {α : Type} {R : V → α → Prop} {d : V → α} (hd : ∀ v x, R v x → d v = x) {lt : α → α → Bool} {us ys : List V} {zs L : List α} (hr : Rw R us zs) (p : ys.Perm us) (hs : SrtO.Srtd (fun x y => lt (d x) (d y)) ys) (hp : zs.Perm L) (hL : L.Pairwise fun a b => lt b a = false) (ht : ∀ a ∈ L, ∀ b ∈ L, lt a b = false → lt b a = false → a = b) : Rw R ys L := by
  have e1 : us.map d = zs := by
    apply List.ext_getElem?
    intro i
    rw [List.getElem?_map]
    cases e : us[i]? with
    | none =>
      rw [List.getElem?_eq_none_iff] at e
      rw [List.getElem?_eq_none (by rw [← hr.len]; exact e)]
      rfl
    | some u =>
      obtain ⟨x, ex, h⟩ := hr.get e
      rw [ex]
      show some (d u) = _
      rw [hd u x h]
  have e2 : ys.map d = L := by
    refine List.Perm.eq_of_pairwise (le := fun a b => lt b a = false) (fun a b ha hb h1 h2 => ?_) (by rw [List.pairwise_map]; exact hs) hL (((p.map d).trans (by rw [e1])).trans hp)
    have pm : (ys.map d).Perm L := ((p.map d).trans (by rw [e1])).trans hp
    exact ht a (pm.mem_iff.mp ha) b hb h2 h1
  refine ⟨by rw [← e2, List.length_map], fun {i u} e => ?_⟩
  have hu : u ∈ us := p.mem_iff.mp (List.mem_of_getElem? e)
  obtain ⟨j, ej⟩ := List.getElem?_of_mem hu
  obtain ⟨x, _, h⟩ := hr.get ej
  refine ⟨x, ?_, h⟩
  rw [← e2, List.getElem?_map, e]
  show some (d u) = _
  rw [hd u x h]
def intG : V → Int
  | .int i => i
  | _ => 0
def tiG (H : Hp) : V → List Int
  | .ref a => match H a with
    | some (.tup us) => us.map intG
    | _ => []
  | _ => []
theorem tiG_of {H : Hp} {v : V} {xs : List Int} (h : TI H v xs) : tiG H v = xs := by
  obtain ⟨a, rfl, h⟩ := h
  have e : tiG H (.ref a) = (xs.map V.int).map intG := by
    unfold tiG
    dsimp only
    rw [h]
  rw [e]
  rw [List.map_map]
  exact (List.map_congr_left fun _ _ => rfl).trans (List.map_id xs)
def tiD (xs : List Int) : PyData := .tuple (xs.map PyData.int)
def tiLt (a b : List Int) : Bool := PySem.W.dataLt (tiD a) (tiD b)
def fndA : Nat → List (List Int)
  | 0 => [[]]
  | j + 1 => fndA j ++ (fndA j).map fun x => x ++ [((j : Nat) : Int)]
def ablesC : Nat → List (List Int)
  | 1 => [[0]]
  | 2 => [[0], [0, 1], [1]]
  | _ => [[0], [0, 1], [0, 1, 2], [0, 2], [1], [1, 2], [2]]
theorem ables_ok : ∀ c : Nat, 1 ≤ c → c ≤ 3 → (fndA c).Perm ([] :: ablesC c) ∧ (([] :: ablesC c).Pairwise fun a b => tiLt b a = false) ∧ ∀ a ∈ [] :: ablesC c, ∀ b ∈ [] :: ablesC c, tiLt a b = false → tiLt b a = false → a = b
  | 1, _, _ => by refine ⟨?_, ?_, ?_⟩ <;> decide +kernel
  | 2, _, _ => by refine ⟨?_, ?_, ?_⟩ <;> decide +kernel
  | 3, _, _ => by refine ⟨?_, ?_, ?_⟩ <;> decide +kernel
theorem tiD_dep (xs : List Int) : (tiD xs).depth ≤ 2 := by
  have : ∀ l : List Int, PyData.depthAll (l.map PyData.int) ≤ 1 := fun l => by
    induction l with
    | nil => exact Nat.zero_le _
    | cons x r ih =>
      show max (PyData.depth (.int x)) (PyData.depthAll (r.map PyData.int)) ≤ 1
      have : PyData.depth (.int x) ≤ 1 := by simp [PyData.depth]
      omega
  show PyData.depthAll (xs.map PyData.int) + 1 ≤ 2
  have := this xs
  omega
theorem alikeI : ∀ a b : List Int, PySem.W.alikeAll (a.map PyData.int) (b.map PyData.int) = true
  | [], b => by cases b <;> rfl
  | x :: a, [] => rfl
  | x :: a, y :: b => by
    show (PySem.W.alike (.int x) (.int y) && PySem.W.alikeAll (a.map PyData.int) (b.map PyData.int)) = true
    rw [alikeI a b]
    rfl
theorem fndA_hd : ∀ j, ∃ r, fndA j = [] :: r
  | 0 => ⟨[], rfl⟩
  | j + 1 => by
    obtain ⟨r, e⟩ := fndA_hd j
    refine ⟨r ++ (fndA j).map (fun x => x ++ [((j : Nat) : Int)]), ?_⟩
    show fndA j ++ _ = _
    conv => lhs; lhs; rw [e]
    rfl
theorem hu6 {A : Around} {k : Nat} (hr : Room k A) : A.units + 70 < cLine := by have := hr.un; omega
section
variable {P : Program} {w : World} {K : PySem.W.Frag} {mg : Str → Option Value} {base : Heap} {t1 t2 : Tok}
def spAbles : Sp := fun vs H Q _ => ∃ (c : Nat), vs = [.int (c : Nat)] ∧ 1 ≤ c ∧ c ≤ 3 ∧ ∀ l us H', H l = none → H' l = some (.lst us) → Rw (TI H') us (ablesC c) → Kp [] H H' → Q (.ref l) H'
theorem ok_able_tuples {f : Addr} {fd : FuncData} (D : Df K mg "able_tuples" s_able_tuples ["callers"] f fd) (T : Bt mg t1 t2) : FnOk P w K mg base CX0 1 f fd ["callers"] spAbles := by
  refine D.F.ok sc_able_tuples (fun vs H Q E h => ?_) (fun cdv A outer s H vs Q E hr h => ?_)
  · obtain ⟨_, rfl, _⟩ := h
    rfl
  · obtain ⟨c, rfl, c1, c3, q⟩ := h
    refine ⟨_, (pss_cons (ps_set (i := 1) sc_able_tuples.nd rfl (Or.inl rfl) (pe_lst (pa_cons (pe_tup pa_nil) pa_nil)))
      (pss_cons (ps_for PassesOwn.never rfl (pi_range1 rfl T.b_range (pa_cons (pv 0) pa_nil)) (pg_name (i := 2) sc_able_tuples.nd rfl (Or.inr rfl)) (pss_one (ps_set (i := 1) sc_able_tuples.nd rfl (Or.inl rfl) (pe_op op_cat (pv 1) (pe_lc (own := [("able", 3)]) (g := (gName 3)) (tt := tYes) rfl sc_able_tuples.nd (pi_list (pv 1)) (blkOk_by (N := ["callers", "found", "caller", "able"]) (sc := defScope s_able_tuples) (by decide +kernel)) (fun _ _ _ _ _ => (pg_name (i := 3) sc_able_tuples.nd rfl (Or.inl rfl))) (fun _ _ _ _ _ => pts_nil) (fun _ _ _ _ _ => (pe_op (r := rCatA K) op_catA (pv 3) (pe_tup (pa_cons (pv 2) pa_nil)))))))))
      (pss_one (ps_ret (pe_slice sl_list (pe_callB (id := "sorted") (r := rSortedD K) (cr_sortedD (hu6 hr)) (by rfl) T.b_sorted (by decide +kernel) (pa_cons (pv 1) pa_nil)) (po_some pe_int) po_none))))), ?_⟩
    try simp (maxSteps := 1000000) only [tSeq, tIfS, tTest, tOp, tUn, tCB, tCons, tNil, tVar, tC, rI0, rI, rU, rEq, rNe, tRet, tRetN, tAsg, gName, gSub, tBM, tBM0, tNext, tB, tNot, tAnd, tOr, tIf, tCall, tDrop, tBreak, tCont, L2.start, tDGet, sDPut, tTup, tLst, tDNewK, tRevL, rCat, rAppend, rPop, rSetL, tAndV, tOrV, tNotV, tSl, tPart, tNoPart, tM1, gTup, gCons, gNil, cxK, cxnK, List.map_cons, List.map_nil, List.length_cons, List.length_nil, List.replicate, List.cons_append, List.nil_append, List.append_nil, List.set_cons_zero, List.set_cons_succ, List.getElem?_cons_zero, List.getElem?_cons_succ, Option.some.injEq, V.ref.injEq, V.int.injEq, V.str.injEq, V.bl.injEq, V.ty.injEq, exists_eq_left', exists_eq_left, exists_and_left, List.cons.injEq, and_true, true_and, sc_ii, sc_ss, sc_bb, sc_ni, sc_in, sc_is, sc_si, sc_nn, decide_true, decide_false, reduceCtorEq, Bool.false_eq_true, if_true, if_false, ite_true, ite_false, exists_const, eq_self, false_and, and_false, or_false, false_or, exists_false, Evl.rLenS, rSum, wipe, tYes, exists_eq, exists_eq', rIxL, rIxT, rIxS, exists_and_right, gt_iff_lt, not_true_eq_false, not_false_eq_true, Bool.not_true, Bool.not_false, decide_eq_true_eq, Nat.reduceSub, Nat.reduceAdd, List.append_assoc, tChain, tDIn, tDNotIn, sDDel, tAug, ipI, rInt1_int, rInt1_bl]
    refine ⟨Nat.zero_le _, fun e0 ne0 => ⟨by decide, fun l0 nl0 => ?_⟩⟩
    have k0 : Kp [] H (upd (upd H e0 (.tup [])) l0 (.lst [.ref e0])) := (Kp.new ne0).trans (Kp.new nl0)
    have h0 : Rw (TI (upd (upd H e0 (.tup [])) l0 (.lst [.ref e0]))) [.ref e0] (fndA 0) := .cons ⟨e0, rfl, (Kp.new nl0 : Kp [] _ _) _ _ not0 upd_same⟩ .nil
    have hl0 : (upd (upd H e0 (.tup [])) l0 (.lst [.ref e0])) l0 = some (.lst [.ref e0]) := upd_same
    generalize upd (upd H e0 (.tup [])) l0 (.lst [.ref e0]) = H0 at k0 h0 hl0 ⊢
    refine forN c (by omega) (fun j σ H' => ∃ (l : Addr) (us : List V) (c2 : Option V), σ = [some (.int (c : Nat)), some (.ref l), c2, none] ∧ H' l = some (.lst us) ∧ Rw (TI H') us (fndA j) ∧ Kp [] H H') (fun R h => ?_) ⟨_, _, _, rfl, hl0, h0, k0⟩ ?_ ?_
    · try simp (maxSteps := 1000000) only [tSeq, tIfS, tTest, tOp, tUn, tCB, tCons, tNil, tVar, tC, rI0, rI, rU, rEq, rNe, tRet, tRetN, tAsg, gName, gSub, tBM, tBM0, tNext, tB, tNot, tAnd, tOr, tIf, tCall, tDrop, tBreak, tCont, L2.start, tDGet, sDPut, tTup, tLst, tDNewK, tRevL, rCat, rAppend, rPop, rSetL, tAndV, tOrV, tNotV, tSl, tPart, tNoPart, tM1, gTup, gCons, gNil, cxK, cxnK, List.map_cons, List.map_nil, List.length_cons, List.length_nil, List.replicate, List.cons_append, List.nil_append, List.append_nil, List.set_cons_zero, List.set_cons_succ, List.getElem?_cons_zero, List.getElem?_cons_succ, Option.some.injEq, V.ref.injEq, V.int.injEq, V.str.injEq, V.bl.injEq, V.ty.injEq, exists_eq_left', exists_eq_left, exists_and_left, List.cons.injEq, and_true, true_and, sc_ii, sc_ss, sc_bb, sc_ni, sc_in, sc_is, sc_si, sc_nn, decide_true, decide_false, reduceCtorEq, Bool.false_eq_true, if_true, if_false, ite_true, ite_false, exists_const, eq_self, false_and, and_false, or_false, false_or, exists_false, Evl.rLenS, rSum, wipe, tYes, exists_eq, exists_eq', rIxL, rIxT, rIxS, exists_and_right, gt_iff_lt, not_true_eq_false, not_false_eq_true, Bool.not_true, Bool.not_false, decide_eq_true_eq, Nat.reduceSub, Nat.reduceAdd, List.append_assoc, tChain, tDIn, tDNotIn, sDDel, tAug, ipI, rInt1_int, rInt1_bl]
      exact h
    · rintro j σ H1 hj ⟨l, us, c2, rfl, hl, hus, k1⟩
      try simp (maxSteps := 1000000) only [tSeq, tIfS, tTest, tOp, tUn, tCB, tCons, tNil, tVar, tC, rI0, rI, rU, rEq, rNe, tRet, tRetN, tAsg, gName, gSub, tBM, tBM0, tNext, tB, tNot, tAnd, tOr, tIf, tCall, tDrop, tBreak, tCont, L2.start, tDGet, sDPut, tTup, tLst, tDNewK, tRevL, rCat, rAppend, rPop, rSetL, tAndV, tOrV, tNotV, tSl, tPart, tNoPart, tM1, gTup, gCons, gNil, cxK, cxnK, List.map_cons, List.map_nil, List.length_cons, List.length_nil, List.replicate, List.cons_append, List.nil_append, List.append_nil, List.set_cons_zero, List.set_cons_succ, List.getElem?_cons_zero, List.getElem?_cons_succ, Option.some.injEq, V.ref.injEq, V.int.injEq, V.str.injEq, V.bl.injEq, V.ty.injEq, exists_eq_left', exists_eq_left, exists_and_left, List.cons.injEq, and_true, true_and, sc_ii, sc_ss, sc_bb, sc_ni, sc_in, sc_is, sc_si, sc_nn, decide_true, decide_false, reduceCtorEq, Bool.false_eq_true, if_true, if_false, ite_true, ite_false, exists_const, eq_self, false_and, and_false, or_false, false_or, exists_false, Evl.rLenS, rSum, wipe, tYes, exists_eq, exists_eq', rIxL, rIxT, rIxS, exists_and_right, gt_iff_lt, not_true_eq_false, not_false_eq_true, Bool.not_true, Bool.not_false, decide_eq_true_eq, Nat.reduceSub, Nat.reduceAdd, List.append_assoc, tChain, tDIn, tDNotIn, sDDel, tAug, ipI, rInt1_int, rInt1_bl]
      have fl : (fndA j).length ≤ 4 := by
        match j, hj with
        | 0, _ => decide
        | 1, _ => decide
        | 2, _ => decide
        | j + 3, h => exact absurd h (by omega)
      have fi : ∀ x ∈ fndA j, x.length ≤ 2 := by
        match j, hj with
        | 0, _ => decide
        | 1, _ => decide
        | 2, _ => decide
        | j + 3, h => exact absurd h (by omega)
      refine lcRelL (R := TI) (R2 := TI) (fun _ _ _ _ t h => h.tp t) (fun _ _ _ _ t h => h.tp t) (fun x => x ++ [((j : Nat) : Int)]) (fun R h => ⟨_, rfl, h⟩) (sq_l hl) hus (by omega) (by simp) (fun v x H2 Q' hx hv k2 q' => ?_) fun D ws H2 nD hD hws k2 => ?_
      · try simp (maxSteps := 1000000) only [tSeq, tIfS, tTest, tOp, tUn, tCB, tCons, tNil, tVar, tC, rI0, rI, rU, rEq, rNe, tRet, tRetN, tAsg, gName, gSub, tBM, tBM0, tNext, tB, tNot, tAnd, tOr, tIf, tCall, tDrop, tBreak, tCont, L2.start, tDGet, sDPut, tTup, tLst, tDNewK, tRevL, rCat, rAppend, rPop, rSetL, tAndV, tOrV, tNotV, tSl, tPart, tNoPart, tM1, gTup, gCons, gNil, cxK, cxnK, List.map_cons, List.map_nil, List.length_cons, List.length_nil, List.replicate, List.cons_append, List.nil_append, List.append_nil, List.set_cons_zero, List.set_cons_succ, List.getElem?_cons_zero, List.getElem?_cons_succ, Option.some.injEq, V.ref.injEq, V.int.injEq, V.str.injEq, V.bl.injEq, V.ty.injEq, exists_eq_left', exists_eq_left, exists_and_left, List.cons.injEq, and_true, true_and, sc_ii, sc_ss, sc_bb, sc_ni, sc_in, sc_is, sc_si, sc_nn, decide_true, decide_false, reduceCtorEq, Bool.false_eq_true, if_true, if_false, ite_true, ite_false, exists_const, eq_self, false_and, and_false, or_false, false_or, exists_false, Evl.rLenS, rSum, wipe, tYes, exists_eq, exists_eq', rIxL, rIxT, rIxS, exists_and_right, gt_iff_lt, not_true_eq_false, not_false_eq_true, Bool.not_true, Bool.not_false, decide_eq_true_eq, Nat.reduceSub, Nat.reduceAdd, List.append_assoc, tChain, tDIn, tDNotIn, sDDel, tAug, ipI, rInt1_int, rInt1_bl]
        obtain ⟨a, rfl, ha⟩ := hv
        refine ⟨by decide, fun p np => ?_⟩
        have kp := (Kp.new np : Kp [] H2 (upd H2 p (.tup [.int (j : Nat)])))
        have := fi x hx
        exact catI (kp _ _ not0 ha) (ys := [((j : Nat) : Int)]) upd_same (by simp; omega) fun c H3 hc k3 => q' _ _ hc (kp.trans k3)
      · refine ⟨D, rfl, _, k2 _ _ not0 hl, _, hD, ?_, fun p np => ?_⟩
        · rw [hus.len, hws.len, List.length_map]
          exact Nat.le_of_lt (smallL (by omega))
        · have kp := (Kp.new np : Kp [] H2 (upd H2 p (.lst (us ++ ws))))
          exact ⟨us ++ ws, upd_same, (hus.mono fun _ _ z => z.tp (k2.trans kp).tps).app (hws.mono fun _ _ z => z.tp kp.tps), (k1.trans k2).trans kp⟩
    · rintro σ H1 ⟨l, us, c2, rfl, hl, hus, k1⟩
      try simp (maxSteps := 1000000) only [tSeq, tIfS, tTest, tOp, tUn, tCB, tCons, tNil, tVar, tC, rI0, rI, rU, rEq, rNe, tRet, tRetN, tAsg, gName, gSub, tBM, tBM0, tNext, tB, tNot, tAnd, tOr, tIf, tCall, tDrop, tBreak, tCont, L2.start, tDGet, sDPut, tTup, tLst, tDNewK, tRevL, rCat, rAppend, rPop, rSetL, tAndV, tOrV, tNotV, tSl, tPart, tNoPart, tM1, gTup, gCons, gNil, cxK, cxnK, List.map_cons, List.map_nil, List.length_cons, List.length_nil, List.replicate, List.cons_append, List.nil_append, List.append_nil, List.set_cons_zero, List.set_cons_succ, List.getElem?_cons_zero, List.getElem?_cons_succ, Option.some.injEq, V.ref.injEq, V.int.injEq, V.str.injEq, V.bl.injEq, V.ty.injEq, exists_eq_left', exists_eq_left, exists_and_left, List.cons.injEq, and_true, true_and, sc_ii, sc_ss, sc_bb, sc_ni, sc_in, sc_is, sc_si, sc_nn, decide_true, decide_false, reduceCtorEq, Bool.false_eq_true, if_true, if_false, ite_true, ite_false, exists_const, eq_self, false_and, and_false, or_false, false_or, exists_false, Evl.rLenS, rSum, wipe, tYes, exists_eq, exists_eq', rIxL, rIxT, rIxS, exists_and_right, gt_iff_lt, not_true_eq_false, not_false_eq_true, Bool.not_true, Bool.not_false, decide_eq_true_eq, Nat.reduceSub, Nat.reduceAdd, List.append_assoc, tChain, tDIn, tDNotIn, sDDel, tAug, ipI, rInt1_int, rInt1_bl]
      obtain ⟨p1, p2, p3⟩ := ables_ok c c1 c3
      have al : ∀ x ∈ us, ∃ g, g ∈ fndA c ∧ TI H1 x g := fun x hx => by
        obtain ⟨i, ei⟩ := List.getElem?_of_mem hx
        obtain ⟨g, eg, hg⟩ := hus.get ei
        exact ⟨g, List.mem_of_getElem? eg, hg⟩
      refine ⟨l, us, fun v => tiD (tiG H1 v), rfl, sq_l hl, fun x hx => ?_, ⟨fun x hx y hy => ?_, .inr ⟨fun x hx => ⟨_, rfl⟩, ?_⟩⟩, fun ys p hs pm np => ?_⟩
      · obtain ⟨g, _, hg⟩ := al x hx
        dsimp only
        rw [tiG_of hg]
        refine ⟨hg.dp, by have := tiD_dep g; omega, ?_⟩
        obtain ⟨a, rfl, _⟩ := hg
        exact ⟨a, rfl⟩
      · exact alikeI _ _
      · obtain ⟨r, er⟩ := fndA_hd c
        rw [er] at hus
        obtain ⟨u, ur, rfl, hu, _⟩ := hus.ex
        exact ⟨u, ur, rfl, by show tiD (tiG H1 u) = _; rw [tiG_of hu]; rfl⟩
      · have hys := srt_rw (R := TI H1) (d := tiG H1) (fun _ _ h => tiG_of h) (lt := tiLt) hus pm hs p1 p2 p3
        obtain ⟨u, ur, rfl, _, hur⟩ := hys.ex
        have kp := (Kp.new np : Kp [] H1 (upd H1 p (.lst (u :: ur))))
        have hp : (upd H1 p (.lst (u :: ur))) p = some (.lst (u :: ur)) := upd_same
        have hur2 := hur.mono fun _ _ z => z.tp kp.tps
        generalize upd H1 p (.lst (u :: ur)) = H2 at kp hp hur2 ⊢
        refine ⟨p, _, rfl, sq_l hp, fun z nz => ?_⟩
        rw [show cutV (u :: ur) (some 1) none = ur from cut_from (u :: ur) 1]
        have kz := (Kp.new nz : Kp [] H2 (upd H2 z (.lst ur)))
        exact q z ur _ ((k1.trans kp).free0 nz) upd_same (hur2.mono fun _ _ h => h.tp kz.tps) ((k1.trans kp).trans kz)
end
end My

set_option Elab.async false
set_option linter.all false
set_option maxRecDepth 100000
set_option maxHeartbeats 4000000
namespace My
open PySem L2 NdefX StX
/-! ### pairs of states as keys, the moves that are let by; what a search by breadth keeps in the heap -/
abbrev S2 := Int × Int
def keyI (s : S2) : NestedKey := .tup [.num s.1, .num s.2]
theorem keyI_inj {s t : S2} (h : keyI s = keyI t) : s = t := by
  obtain ⟨a, b⟩ := s
  obtain ⟨a', b'⟩ := t
  unfold keyI at h
  injection h with h
  injection h with h1 h2
  injection h1 with h1
  injection h2 with h2 _
  injection h2 with h2
  have h1 : a = a' := h1
  have h2 : b = b' := h2
  rw [h1, h2]
theorem keyI_nk {H : Hp} {t : Addr} {s : S2} (h : H t = some (.tup [.int s.1, .int s.2])) : NKey H (.ref t) (keyI s) := ⟨t, rfl, .tup h (.cons (.int _) (.cons (.int _) .nil)), by unfold keyI; simp only [NestedKey.depthAll, NestedKey.depth]; omega⟩
theorem valN_nd : ∀ {kvs : List (NestedKey × V)} {i : Nat} {k : NestedKey} {v : V}, (kvs.map (·.1)).Nodup → kvs[i]? = some (k, v) → valN kvs k = some v
  | [], _, _, _, _, e => nomatch e
  | p :: r, i, k, v, nd, e => by
    rw [List.map_cons, List.nodup_cons] at nd
    unfold valN
    cases i with
    | zero =>
      have e : some p = some (k, v) := e
      cases e
      rw [List.find?_cons_of_pos (by simp)]
      rfl
    | succ i =>
      have e : r[i]? = some (k, v) := e
      rw [List.find?_cons_of_neg]
      · exact valN_nd nd.2 e
      · simp
        intro z
        exact nd.1 (by rw [z]; exact List.mem_map.mpr ⟨_, List.mem_of_getElem? e, rfl⟩)
def psC (c : Nat) : List Pr := (ablesC c).flatMap fun ab => ab.map fun k => (ab, k)
def ιP (c : Nat) (p : Pr) : Nat := (psC c).idxOf p
def mvC (c : Nat) (a : List Cst) (s : S2) : List Pr := (psC c).filter fun p => letG p.1 p.2 (stOf a s.1).1
def stC (a b : List Cst) (s : S2) (p : Pr) : Option S2 := if letG p.1 p.2 (stOf b s.2).1 = true then some (nxt a s.1 p.2, nxt b s.2 p.2) else none
theorem letOf_eq (ab : List Int) : ∀ gs, letOf gs ab = ab.filter fun k => letG ab k gs
  | [] => by
    show ([] : List Int) = ab.filter fun _ => false
    exact (List.filter_eq_nil_iff.mpr (fun _ _ h => Bool.noConfusion h)).symm
  | g :: gs => by
    rw [letOf_cons]
    by_cases h : ab.any (fun k => decide (k ∈ g)) = true
    · obtain ⟨k, hk, hkg⟩ := List.any_eq_true.mp h
      rw [if_neg (fun e => by
        have : k ∈ ab.filter fun x => decide (x ∈ g) := List.mem_filter.mpr ⟨hk, hkg⟩
        rw [e] at this
        cases this)]
      refine List.filter_congr fun x _ => ?_
      show _ = if ab.any (fun k => decide (k ∈ g)) = true then decide (x ∈ g) else letG ab x gs
      rw [if_pos h]
    · have e0 : (ab.filter fun x => decide (x ∈ g)) = [] := by
        rw [List.filter_eq_nil_iff]
        exact fun k hk hkg => h (List.any_eq_true.mpr ⟨k, hk, hkg⟩)
      rw [if_pos e0, letOf_eq ab gs]
      refine List.filter_congr fun x _ => ?_
      show _ = if ab.any (fun k => decide (k ∈ g)) = true then decide (x ∈ g) else letG ab x gs
      rw [if_neg h]
theorem mv_flat (c : Nat) (a : List Cst) (s : S2) : mvC c a s = (ablesC c).flatMap fun ab => (letOf (stOf a s.1).1 ab).map fun k => (ab, k) := by
  unfold mvC psC
  rw [List.filter_flatMap]
  congr 1
  funext ab
  rw [List.filter_map, letOf_eq]
  rfl
theorem ps_ok : ∀ c : Nat, 1 ≤ c → c ≤ 3 → (psC c).Pairwise (fun x y => ιP c x < ιP c y) ∧ (∀ x ∈ psC c, ∀ y ∈ psC c, ιP c x = ιP c y → x = y) ∧ (∀ p ∈ psC c, p.1.length ≤ 3 ∧ 0 ≤ p.2 ∧ p.2 < c ∧ p.2 ∈ p.1) ∧ (psC c).length ≤ 12 ∧ (ablesC c).length ≤ 7
  | 1, _, _ => by refine ⟨?_, ?_, ?_, ?_, ?_⟩ <;> decide +kernel
  | 2, _, _ => by refine ⟨?_, ?_, ?_, ?_, ?_⟩ <;> decide +kernel
  | 3, _, _ => by refine ⟨?_, ?_, ?_, ?_, ?_⟩ <;> decide +kernel
theorem mv_ord {c : Nat} (c1 : 1 ≤ c) (c3 : c ≤ 3) (a : List Cst) (s : S2) : (mvC c a s).Pairwise (fun x y => ιP c x < ιP c y) := (ps_ok c c1 c3).1.sublist List.filter_sublist
theorem mv_in {c : Nat} {a : List Cst} {s : S2} {z : Pr} (h : z ∈ mvC c a s) : z ∈ psC c := (List.mem_filter.mp h).1
def InR (a b : List Cst) (s : S2) : Prop := (0 ≤ s.1 ∧ s.1 < a.length) ∧ (0 ≤ s.2 ∧ s.2 < b.length)
theorem inR_next {c : Nat} {a b : List Cst} {s t : S2} {p : Pr} (gA : GoodC (c : Nat) a) (gB : GoodC (c : Nat) b) (h : InR a b s) (p0 : 0 ≤ p.2) (p1 : p.2 < c) (e : stC a b s p = some t) : InR a b t := by
  unfold stC at e
  split at e
  · cases e
    exact ⟨(gA.nx h.1.1 h.1.2 p0 p1).2, (gB.nx h.2.1 h.2.2 p0 p1).2⟩
  · cases e
def allR (a b : List Cst) : List S2 := (List.range a.length).flatMap fun i => (List.range b.length).map fun j => (((i : Nat) : Int), ((j : Nat) : Int))
theorem inR_all {a b : List Cst} {s : S2} (h : InR a b s) : s ∈ allR a b := by
  obtain ⟨⟨h1, h2⟩, h3, h4⟩ := h
  refine List.mem_flatMap.mpr ⟨s.1.toNat, List.mem_range.mpr (by omega), List.mem_map.mpr ⟨s.2.toNat, List.mem_range.mpr (by omega), ?_⟩⟩
  rw [Int.toNat_of_nonneg h1, Int.toNat_of_nonneg h3]
theorem allR_len (a b : List Cst) : (allR a b).length = a.length * b.length := by
  unfold allR
  rw [List.length_flatMap]
  have : ∀ l : List Nat, (l.map fun i => ((List.range b.length).map fun j => (((i : Nat) : Int), ((j : Nat) : Int))).length).sum = l.length * b.length := fun l => by
    induction l with
    | nil => simp
    | cons x r ih =>
      rw [List.map_cons, List.sum_cons, ih, List.length_map, List.length_range, List.length_cons, Nat.succ_mul]
      omega
  rw [this, List.length_range]
theorem gs_len {a b : List Cst} {G : List (S2 × List Pr)} (ha : a.length ≤ 12) (hb : b.length ≤ 12) (nd : (G.map (·.1)).Nodup) (h : ∀ e ∈ G, InR a b e.1) : G.length ≤ 144 := by
  have := nodup_lenP nd (m := allR a b) fun x hx => by
    obtain ⟨e, he, rfl⟩ := List.mem_map.mp hx
    exact inR_all (h e he)
  rw [List.length_map, allR_len] at this
  have := Nat.mul_le_mul ha hb
  omega
/-- the found pairs in a list, their rows in a dict -/
def PrtI (P : Program) (w : World) (a b : List Cst) (H : Hp) (fl rd : Addr) (G : List (S2 × List Pr)) (H' : Hp) : Prop :=
  (∃ us, H' fl = some (.lst us) ∧ Rw (TI H') us (G.map fun e => [e.1.1, e.1.2])) ∧
  (∃ kvs, DnAt P w H' rd kvs ∧ kvs.map (·.1) = G.map (fun e => keyI e.1) ∧ ∀ (i : Nat) (e : S2 × List Pr), G[i]? = some e → e.2.length ≤ i ∧ InR a b e.1 ∧ ∃ l us, kvs[i]? = some (keyI e.1, V.ref l) ∧ l ≠ fl ∧ H' l = some (.lst us) ∧ Rw (PrAt H') us e.2) ∧ Kp [] H H'
theorem PrtI.kp {P : Program} {w : World} {a b : List Cst} {H H1 H2 : Hp} {fl rd : Addr} {G : List (S2 × List Pr)} (h : PrtI P w a b H fl rd G H1) (k : Kp [] H1 H2) : PrtI P w a b H fl rd G H2 := by
  obtain ⟨⟨us, h1, h2⟩, ⟨kvs, h3, h4, h5⟩, h6⟩ := h
  refine ⟨⟨us, k _ _ not0 h1, h2.mono fun _ _ z => z.kp k⟩, ⟨kvs, dn_kp h3 k, h4, fun i e ei => ?_⟩, h6.trans k⟩
  obtain ⟨p1, p2, l, vs, p3, p4, p5, p6⟩ := h5 i e ei
  exact ⟨p1, p2, l, vs, p3, p4, k _ _ not0 p5, p6.mono fun _ _ z => z.tp k.tps⟩
theorem PrtI.rng {P : Program} {w : World} {a b : List Cst} {H H1 : Hp} {fl rd : Addr} {G : List (S2 × List Pr)} (h : PrtI P w a b H fl rd G H1) : ∀ e ∈ G, InR a b e.1 := fun e he => by
  obtain ⟨_, ⟨kvs, _, _, h5⟩, _⟩ := h
  obtain ⟨i, ei⟩ := List.getElem?_of_mem he
  exact (h5 i e ei).2.1
theorem keys_nd {G : List (S2 × List Pr)} (nd : (G.map (·.1)).Nodup) : (G.map fun e => keyI e.1).Nodup := by
  have : (G.map fun e => keyI e.1) = (G.map (·.1)).map keyI := by rw [List.map_map]; rfl
  rw [this]
  exact List.pairwise_map.mpr (nd.imp fun h z => h (keyI_inj z))
/-- another pair is found: its row is put under its key, then it is added to the list -/
theorem PrtI.add {P : Program} {w : World} {a b : List Cst} {H H1 : Hp} {fl rd g l : Addr} {G : List (S2 × List Pr)} {t : S2} {r : List Pr} {us vs : List V} {kvs : List (NestedKey × V)} {ob : HO} (h : PrtI P w a b H fl rd G H1) (nfl : H fl = none) (nrd : H rd = none)
    (hg : H1 g = some (.tup [.int t.1, .int t.2])) (hl : H1 l = some (.lst us)) (hr : Rw (PrAt H1) us r) (ne : l ≠ fl) (lr : r.length ≤ G.length) (it : InR a b t) (nt : t ∉ G.map (·.1)) (hk : DnAt P w H1 rd kvs) (hkk : kvs.map (·.1) = G.map (fun e => keyI e.1)) (hkv : ∀ (i : Nat) (e : S2 × List Pr), G[i]? = some e → e.2.length ≤ i ∧ InR a b e.1 ∧ ∃ l us, kvs[i]? = some (keyI e.1, V.ref l) ∧ l ≠ fl ∧ H1 l = some (.lst us) ∧ Rw (PrAt H1) us e.2)
    (hob : DnAt P w (upd H1 rd ob) rd (putN kvs (keyI t) (.ref l))) (hf : H1 fl = some (.lst vs)) :
    (upd H1 rd ob) fl = some (.lst vs) ∧ PrtI P w a b H fl rd (G ++ [(t, r)]) (upd (upd H1 rd ob) fl (.lst (vs ++ [.ref g]))) := by
  obtain ⟨⟨us', f1, f2⟩, _, k⟩ := h
  rw [hf] at f1
  cases f1
  have nfr : fl ≠ rd := dn_nl hk hf
  have ngr : g ≠ rd := dn_nt hk hg
  have nlr : l ≠ rd := dn_nl hk hl
  have tp1 : Tp H1 (upd H1 rd ob) := fun x xs e => by rw [upd_ne (dn_nt hk e)]; exact e
  have hf1 : (upd H1 rd ob) fl = some (.lst vs) := by rw [upd_ne nfr]; exact hf
  have tp2 : Tp (upd H1 rd ob) (upd (upd H1 rd ob) fl (.lst (vs ++ [.ref g]))) := (Tp.refl _).putL hf1
  have tp := tp1.trans tp2
  have hp : putN kvs (keyI t) (.ref l) = kvs ++ [(keyI t, .ref l)] := by
    unfold putN
    have : valN kvs (keyI t) = none := valN_notK (by
      rw [hkk]
      intro hm
      obtain ⟨e, he, ee⟩ := List.mem_map.mp hm
      exact nt (by rw [← keyI_inj ee]; exact List.mem_map_of_mem he))
    rw [this]
    rfl
  rw [hp] at hob
  have old : ∀ {x : Addr} {ws : List V}, H1 x = some (.lst ws) → x ≠ fl → (upd (upd H1 rd ob) fl (.lst (vs ++ [.ref g]))) x = some (.lst ws) := fun {x ws} e n => by
    rw [upd_ne n, upd_ne (dn_nl hk e)]
    exact e
  refine ⟨hf1, ⟨_, upd_same, ?_⟩, ⟨_, dn_wr hob hf1 nfr.symm, ?_, fun i e ei => ?_⟩, (k.wr nrd).wr nfl⟩
  · rw [List.map_append]
    exact (f2.mono fun _ _ z => z.tp tp).snoc ⟨g, rfl, tp _ _ hg⟩
  · rw [List.map_append, List.map_append, hkk]
    rfl
  · have kl : kvs.length = G.length := by
      have := congrArg List.length hkk
      simpa using this
    rcases Nat.lt_trichotomy i G.length with x | x | x
    · rw [List.getElem?_append_left x] at ei
      obtain ⟨p1, p2, l', ws, p3, p4, p5, p6⟩ := hkv i e ei
      exact ⟨p1, p2, l', ws, by rw [List.getElem?_append_left (by omega)]; exact p3, p4, old p5 p4, p6.mono fun _ _ z => z.tp tp⟩
    · subst x
      rw [List.getElem?_append_right (Nat.le_refl _), Nat.sub_self] at ei
      cases ei
      exact ⟨lr, it, l, us, by rw [← kl, List.getElem?_append_right (Nat.le_refl _), Nat.sub_self]; rfl, ne, old hl ne, hr.mono fun _ _ z => z.tp tp⟩
    · rw [List.getElem?_append_right (by omega), List.getElem?_eq_none (by simp; omega)] at ei
      cases ei
end My

set_option Elab.async false
set_option linter.all false
set_option maxRecDepth 100000
set_option maxHeartbeats 4000000
namespace My
open PySem L2 NdefX StX
abbrev s_parting_row : Stmt := top 16
theorem sc_parting_row : FnScope ["a", "b", "ables", "found", "rows", "at", "state", "other", "able", "caller", "row", "goal"] ["a", "b"] (defScope s_parting_row) := ⟨rfl, rfl, rfl, by decide +kernel, rfl, by decide +kernel, by decide +kernel⟩
section
variable {P : Program} {w : World} {K : PySem.W.Frag} {mg : Str → Option Value} {base : Heap} {t1 t2 : Tok}
def spPart (CH BN : Addr) : Sp := fun vs H Q E => ∃ (oa ob : Addr) (c c' : Nat) (a b : List Cst), vs = [.ref oa, .ref ob] ∧ ChAt CH H oa (c : Nat) a ∧ ChAt CH H ob (c' : Nat) b ∧ GoodC (c : Nat) a ∧ GoodC (c' : Nat) b ∧
  (c = c' → (∀ r l us H', BO.Least (ιP c) (mvC c a) (stC a b) (0, 0) r → r.length ≤ 200 → H l = none → H' l = some (.lst us) → Rw (PrAt H') us r → Kp [] H H' → Q (.ref l) H') ∧ ((∀ w, ¬ BO.Par (mvC c a) (stC a b) (0, 0) w) → ∀ H', Kp [] H H' → Q .non H')) ∧
  (c ≠ c' → ∀ (e : Addr) (H' : Hp), H e = none → H' e = some (.xd [("number", .int (c' : Nat))]) → Kp [] H H' → E (.ref BN) (some e) H')
def WPt (P : Program) (w : World) (c : Nat) (a b : List Cst) (oa ob l fl rd : Addr) (H : Hp) (k : Nat) (σ : L2.St) (H' : Hp) : Prop := ∃ (i : Nat) (G : List (S2 × List Pr)) (c6 c7 c8 c9 c10 c11 : Option V), σ = [some (.ref oa), some (.ref ob), some (.ref l), some (.ref fl), some (.ref rd), some (.int (i : Nat)), c6, c7, c8, c9, c10, c11] ∧ BO.BI (ιP c) (mvC c a) (stC a b) (0, 0) i [] G ∧ PrtI P w a b H fl rd G H' ∧ (∃ us, H' l = some (.lst us) ∧ Rw (TI H') us (ablesC c)) ∧ i ≤ G.length ∧ k = 145 - i
def WPa (P : Program) (w : World) (c : Nat) (a b : List Cst) (oa ob l fl rd : Addr) (i : Nat) (x y : Int) (ρ : List Pr) (us2 : List V) (H Hw : Hp) (c8 : Option (Option V)) (M : List Pr) (σ : L2.St) (H' : Hp) : Prop := ∃ (G' : List (S2 × List Pr)) (dn : List Pr) (d8 c9 c10 c11 : Option V), (∀ o, c8 = some o → d8 = o) ∧ σ = [some (.ref oa), some (.ref ob), some (.ref l), some (.ref fl), some (.ref rd), some (.int (i : Nat)), some (.int x), some (.int y), d8, c9, c10, c11] ∧ BO.BI (ιP c) (mvC c a) (stC a b) (0, 0) i dn G' ∧ G'[i]? = some ((x, y), ρ) ∧ PrtI P w a b H fl rd G' H' ∧ H' l = some (.lst us2) ∧ Tp Hw H' ∧ mvC c a (x, y) = dn ++ M
theorem ok_parting_row {f : Addr} {fd : FuncData} (D : Df K mg "parting_row" s_parting_row ["a", "b"] f fd) (T : Bt mg t1 t2) {CH BN BC fO fA fB : Addr} {fdO fdA fdB : FuncData} (C : ChC K mg CH) (E_BadNumber : Er1 P w K mg base "BadNumber" "number" BN fB fdB ["self", "number"] (fun _ => True)) (CO_Chooser : CallO K CH fO) (bO : Binds K fdO ["self", "state", "able"] []) (G_Chooser_call0 : FnOk P w K mg base (L2.CX P w) 4 fO fdO ["self", "state", "able"] (spCall CH BC))
    (ME_Chooser_after : Meth K CH "after" fA) (bM_Chooser_after : Binds K fdA ["self", "state", "caller"] []) (G_Chooser_after : FnOk P w K mg base (L2.CX P w) 4 fA fdA ["self", "state", "caller"] (spAfter CH BC))
    {fb : Addr} {fdb : FuncData} (D_able_tuples : Df K mg "able_tuples" s_able_tuples ["callers"] fb fdb) (G_able_tuples : FnOk P w K mg base CX0 1 fb fdb ["callers"] spAbles) : FnOk P w K mg base (L2.CX P w) 6 f fd ["a", "b"] (spPart CH BN) := by
  refine D.F.okX sc_parting_row (fun vs H Q E h => ?_) (fun cdv A outer s H vs Q E hr h => ?_)
  · obtain ⟨_, _, _, _, _, _, rfl, _⟩ := h
    rfl
  · obtain ⟨oa, ob, c, c', a, b, rfl, hA, hB, gA, gB, q, qE⟩ := h
    have G_Chooser_call := G_Chooser_call0.toR bO
    have hu := hu_of hr
    refine ⟨_, (pss_cons (ps_if (pt_cmpR op_ne (pe_fld (pv 0) rfl) (pe_fld (pv 1) rfl) (nomark _)) (pss_one (ps_raise rfl (takes_of rfl rfl rfl rfl) (pmk_oex E_BadNumber.ox E_BadNumber.ic E_BadNumber.ti E_BadNumber.G (hr.mono (by decide)) E_BadNumber.b .nil passL rfl E_BadNumber.k (pa_cons (pe_fld (pv 1) rfl) pa_nil)))) pss_nil)
      (pss_cons (ps_set (i := 2) sc_parting_row.nd rfl (Or.inl rfl) (pe_call G_able_tuples (hr.mono (by decide)) rfl D_able_tuples.g D_able_tuples.F.kp D_able_tuples.b .nil pass0 (pa_cons (pe_fld (pv 0) rfl) pa_nil)))
      (pss_cons (ps_set (i := 3) sc_parting_row.nd rfl (Or.inl rfl) (pe_lst (pa_cons (pe_tup (pa_cons pe_int (pa_cons pe_int pa_nil))) pa_nil)))
      (pss_cons (ps_set (i := 4) sc_parting_row.nd rfl (Or.inl rfl) (pe_dispN hr.units (pe_tup (pa_cons pe_int (pa_cons pe_int pa_nil))) (pe_lst pa_nil)))
      (pss_cons (ps_set (i := 5) sc_parting_row.nd rfl (Or.inl rfl) pe_int)
      (pss_cons (ps_while (passes_of rfl) (pt_cmpR op_lt (pv 5) (pe_callB (id := "len") (r := Evl.rLenS K) call_len_seq (by rfl) T.b_len PySem.boot_len (pa_cons (pv 3) pa_nil)) (nomark _)) (pss_cons (ps_asg (pe_ix (r := rIxL K) ix_list (pv 3) (pv 5) (fun _ _ => rfl)) (pg_tup (n := 2) (by rfl) (pgs_cons (pg_name (i := 6) sc_parting_row.nd rfl (Or.inl rfl)) (pgs_cons (pg_name (i := 7) sc_parting_row.nd rfl (Or.inl rfl)) pgs_nil))))
      (pss_cons (ps_for (passes_of rfl) rfl (pi_list (pv 2)) (pg_name (i := 8) sc_parting_row.nd rfl (Or.inl rfl)) (pss_one (ps_for (passes_of rfl) rfl (pi_tup (pe_callO (pv 0) CO_Chooser G_Chooser_call (hr.mono (by decide)) (passes_call (E := E) (takes_of rfl rfl rfl rfl) (fun _ _ _ _ h => h)) (pa_cons (pv 6) (pa_cons (pv 8) pa_nil)))) (pg_name (i := 9) sc_parting_row.nd rfl (Or.inl rfl)) (pss_cons (ps_set (i := 10) sc_parting_row.nd rfl (Or.inl rfl) (pe_op op_cat (pe_nget hr.units (pv 4) (pe_ix (r := rIxL K) ix_list (pv 3) (pv 5) (fun _ _ => rfl)) (fun _ _ => rfl)) (pe_lst (pa_cons (pe_tup (pa_cons (pv 8) (pa_cons (pv 9) pa_nil))) pa_nil))))
      (pss_cons (ps_if (pt_cmpR op_notIn_seq (pv 9) (pe_callO (pv 1) CO_Chooser G_Chooser_call (hr.mono (by decide)) (passes_call (E := E) (takes_of rfl rfl rfl rfl) (fun _ _ _ _ h => h)) (pa_cons (pv 7) (pa_cons (pv 8) pa_nil))) (by rfl)) (pss_one (ps_ret (pv 10))) pss_nil)
      (pss_cons (ps_set (i := 11) sc_parting_row.nd rfl (Or.inl rfl) (pe_tup (pa_cons (pe_meth (pv 0) C.cl ME_Chooser_after G_Chooser_after (hr.mono (by decide)) bM_Chooser_after .nil (passes_call (E := E) (takes_of rfl rfl rfl rfl) (fun _ _ _ _ h => h)) (pa_cons (pv 6) (pa_cons (pv 9) pa_nil))) (pa_cons (pe_meth (pv 1) C.cl ME_Chooser_after G_Chooser_after (hr.mono (by decide)) bM_Chooser_after .nil (passes_call (E := E) (takes_of rfl rfl rfl rfl) (fun _ _ _ _ h => h)) (pa_cons (pv 7) (pa_cons (pv 9) pa_nil))) pa_nil))))
      (pss_one (ps_if (pt_cmp (pc_nnotin hr.units (pv 11) (pv 4))) (pss_cons (ps_nput hr.units (pv 4) (pv 11) (pv 10) rfl)
      (pss_one (ps_expr (pe_bm PySem.F.plainAttrs_list PySem.F.slot_list_append PySem.F.type_list_append mt_append (pv 3) (pa_cons (pv 11) pa_nil))))) pss_nil))))))))
      (pss_one (ps_aug (i := 5) sc_parting_row.nd rfl (Or.inl rfl) pe_int ip_add)))))
      (pss_one (ps_ret pe_non)))))))), ?_⟩
    try simp (maxSteps := 1000000) only [tSeq, tIfS, tTest, tOp, tUn, tCB, tCons, tNil, tVar, tC, rI0, rI, rU, rEq, rNe, tRet, tRetN, tAsg, gName, gSub, tBM, tBM0, tNext, tB, tNot, tAnd, tOr, tIf, tCall, tDrop, tBreak, tCont, L2.start, tDGet, sDPut, tTup, tLst, tDNewK, tRevL, rCat, rAppend, rPop, rSetL, tAndV, tOrV, tNotV, tSl, tPart, tNoPart, tM1, gTup, gCons, gNil, cxK, cxnK, List.map_cons, List.map_nil, List.length_cons, List.length_nil, List.replicate, List.cons_append, List.nil_append, List.append_nil, List.set_cons_zero, List.set_cons_succ, List.getElem?_cons_zero, List.getElem?_cons_succ, Option.some.injEq, V.ref.injEq, V.int.injEq, V.str.injEq, V.bl.injEq, V.ty.injEq, exists_eq_left', exists_eq_left, exists_and_left, List.cons.injEq, and_true, true_and, sc_ii, sc_ss, sc_bb, sc_ni, sc_in, sc_is, sc_si, sc_nn, decide_true, decide_false, reduceCtorEq, Bool.false_eq_true, if_true, if_false, ite_true, ite_false, exists_const, eq_self, false_and, and_false, or_false, false_or, exists_false, Evl.rLenS, rSum, wipe, tYes, exists_eq, exists_eq', rIxL, rIxT, rIxS, exists_and_right, gt_iff_lt, not_true_eq_false, not_false_eq_true, Bool.not_true, Bool.not_false, decide_eq_true_eq, Nat.reduceSub, Nat.reduceAdd, List.append_assoc, tChain, tDIn, tDNotIn, sDDel, tAug, ipI, rInt1_int, rInt1_bl, tMeth, tFld, tCallO, tDispN]
    obtain ⟨dxa, la, ua, hoa, hla, hua⟩ := id hA
    obtain ⟨dxb, lb, ub, hob, hlb, hub⟩ := id hB
    refine ⟨_, _, _, hoa, C.cl, C.n1, _, rfl, _, _, _, hob, C.cl, C.n1, _, rfl, rfl, ?_⟩
    by_cases hc : c = c'
    case neg =>
      have e0 : (!decide (V.int (c : Nat) = V.int (c' : Nat))) = true := by
        rw [decide_eq_false (fun z => by injection z with z; omega)]
        rfl
      rw [if_pos e0]
      try simp (maxSteps := 1000000) only [tSeq, tIfS, tTest, tOp, tUn, tCB, tCons, tNil, tVar, tC, rI0, rI, rU, rEq, rNe, tRet, tRetN, tAsg, gName, gSub, tBM, tBM0, tNext, tB, tNot, tAnd, tOr, tIf, tCall, tDrop, tBreak, tCont, L2.start, tDGet, sDPut, tTup, tLst, tDNewK, tRevL, rCat, rAppend, rPop, rSetL, tAndV, tOrV, tNotV, tSl, tPart, tNoPart, tM1, gTup, gCons, gNil, cxK, cxnK, List.map_cons, List.map_nil, List.length_cons, List.length_nil, List.replicate, List.cons_append, List.nil_append, List.append_nil, List.set_cons_zero, List.set_cons_succ, List.getElem?_cons_zero, List.getElem?_cons_succ, Option.some.injEq, V.ref.injEq, V.int.injEq, V.str.injEq, V.bl.injEq, V.ty.injEq, exists_eq_left', exists_eq_left, exists_and_left, List.cons.injEq, and_true, true_and, sc_ii, sc_ss, sc_bb, sc_ni, sc_in, sc_is, sc_si, sc_nn, decide_true, decide_false, reduceCtorEq, Bool.false_eq_true, if_true, if_false, ite_true, ite_false, exists_const, eq_self, false_and, and_false, or_false, false_or, exists_false, Evl.rLenS, rSum, wipe, tYes, exists_eq, exists_eq', rIxL, rIxT, rIxS, exists_and_right, gt_iff_lt, not_true_eq_false, not_false_eq_true, Bool.not_true, Bool.not_false, decide_eq_true_eq, Nat.reduceSub, Nat.reduceAdd, List.append_assoc, tChain, tDIn, tDNotIn, sDDel, tAug, ipI, rInt1_int, rInt1_bl, tMeth, tFld, tCallO, tDispN]
      refine ⟨_, rfl, _, _, _, _, _, rfl, hob, C.cl, C.n1, rfl, err1_made (P := fun _ => True) True.intro fun e H' ne he k => qE hc e H' ne he k⟩
    subst hc
    have q1 := (q rfl).1
    have q2 := (q rfl).2
    clear q qE
    rw [if_neg (by simp)]
    refine ⟨_, _, _, hoa, C.cl, C.n1, _, rfl, ?_⟩
    have c1 : 1 ≤ c := by have := gA.1; omega
    have c3 : c ≤ 3 := by have := gA.2.1; omega
    obtain ⟨po1, po2, po3, po4, po5⟩ := ps_ok c c1 c3
    refine ⟨c, rfl, c1, c3, fun l us H1 nl hl hus k1 => ?_⟩
    refine ⟨small (by decide), fun s0 ns0 => ⟨by decide, fun fl nfl => ?_⟩⟩
    intro rd nrd
    refine ⟨small (by decide), fun s1 ns1 => ⟨Nat.zero_le _, fun e0 ne0 => ⟨?_, ?_⟩⟩⟩
    · exact ((Kp.new ns1).trans (Kp.new ne0) : Kp [] _ _) _ _ not0 upd_same
    have ka := k1.trans (Kp.new ns0 (o := .tup [.int 0, .int 0]))
    have nfl0 := ka.free0 nfl
    have kb := ka.trans (Kp.new nfl (o := .lst [.ref s0]))
    have nrd0 := kb.free0 nrd
    have kc := (kb.trans (Kp.new nrd (o := .dK []))).trans ((Kp.new ns1 (o := .tup [.int 0, .int 0])).trans (Kp.new ne0 (o := .lst [])))
    have g1 : (upd (upd (upd (upd (upd H1 s0 (.tup [.int 0, .int 0])) fl (.lst [.ref s0])) rd (.dK [])) s1 (.tup [.int 0, .int 0])) e0 (.lst [])) fl = some (.lst [.ref s0]) := ((Kp.new nrd).trans ((Kp.new ns1).trans (Kp.new ne0)) : Kp [] _ _) _ _ not0 upd_same
    have g2 : (upd (upd (upd (upd (upd H1 s0 (.tup [.int 0, .int 0])) fl (.lst [.ref s0])) rd (.dK [])) s1 (.tup [.int 0, .int 0])) e0 (.lst [])) s0 = some (.tup [.int 0, .int 0]) := ((Kp.new nfl).trans ((Kp.new nrd).trans ((Kp.new ns1).trans (Kp.new ne0))) : Kp [] _ _) _ _ not0 upd_same
    have g3 : (upd (upd (upd (upd (upd H1 s0 (.tup [.int 0, .int 0])) fl (.lst [.ref s0])) rd (.dK [])) s1 (.tup [.int 0, .int 0])) e0 (.lst [])) s1 = some (.tup [.int 0, .int 0]) := (Kp.new ne0 : Kp [] _ _) _ _ not0 upd_same
    have g4 : (upd (upd (upd (upd (upd H1 s0 (.tup [.int 0, .int 0])) fl (.lst [.ref s0])) rd (.dK [])) s1 (.tup [.int 0, .int 0])) e0 (.lst [])) e0 = some (.lst []) := upd_same
    have g5 : (upd (upd (upd (upd (upd H1 s0 (.tup [.int 0, .int 0])) fl (.lst [.ref s0])) rd (.dK [])) s1 (.tup [.int 0, .int 0])) e0 (.lst [])) rd = some (.dK []) := ((Kp.new ns1).trans (Kp.new ne0) : Kp [] _ _) _ _ not0 upd_same
    have nef : e0 ≠ fl := (ne_of_none (((Kp.new nrd (o := .dK [])).trans (Kp.new ns1 (o := .tup [.int 0, .int 0])) : Kp [] _ _) _ _ not0 (upd_same (H := upd H1 s0 (.tup [.int 0, .int 0])) (a := fl) (o := .lst [.ref s0]))) ne0).symm
    have hlr : l ≠ rd := ne_of_none (((Kp.new ns0 (o := .tup [.int 0, .int 0])).trans (Kp.new nfl (o := .lst [.ref s0])) : Kp [] H1 _) _ _ not0 hl) nrd
    have hlf : l ≠ fl := ne_of_none ((Kp.new ns0 (o := .tup [.int 0, .int 0]) : Kp [] H1 _) _ _ not0 hl) nfl
    have hl2 : (upd (upd (upd (upd (upd H1 s0 (.tup [.int 0, .int 0])) fl (.lst [.ref s0])) rd (.dK [])) s1 (.tup [.int 0, .int 0])) e0 (.lst [])) l = some (.lst us) := ((Kp.new ns0).trans ((Kp.new nfl).trans ((Kp.new nrd).trans ((Kp.new ns1).trans (Kp.new ne0)))) : Kp [] H1 _) _ _ not0 hl
    have tp2 : Tp H1 (upd (upd (upd (upd (upd H1 s0 (.tup [.int 0, .int 0])) fl (.lst [.ref s0])) rd (.dK [])) s1 (.tup [.int 0, .int 0])) e0 (.lst [])) := ((Kp.new ns0).trans ((Kp.new nfl).trans ((Kp.new nrd).trans ((Kp.new ns1).trans (Kp.new ne0)))) : Kp [] H1 _).tps
    have hus2 := hus.mono fun _ _ z => z.tp tp2
    clear tp2
    generalize upd (upd (upd (upd (upd H1 s0 (.tup [.int 0, .int 0])) fl (.lst [.ref s0])) rd (.dK [])) s1 (.tup [.int 0, .int 0])) e0 (.lst []) = H2 at kc g1 g2 g3 g4 g5 hl2 hus2 ⊢
    refine ⟨keyI (0, 0), keyI_nk (s := (0, 0)) g3, fun ob' hob' => ?_⟩
    have n1 : fl ≠ rd := fun z => by rw [z, g5] at g1; cases g1
    have n2 : s0 ≠ rd := fun z => by rw [z, g5] at g2; cases g2
    have n3 : e0 ≠ rd := fun z => by rw [z, g5] at g4; cases g4
    have kd := kc.wr (o := ob') nrd0
    have hi0 : PrtI P w a b H fl rd [((0, 0), [])] (upd H2 rd ob') := by
      refine ⟨⟨[.ref s0], by rw [upd_ne n1]; exact g1, .cons ⟨s0, rfl, by rw [upd_ne n2]; exact g2⟩ .nil⟩, ⟨_, hob', rfl, fun i e ei => ?_⟩, kd⟩
      cases i with
      | zero =>
        cases ei
        refine ⟨Nat.le_refl _, ⟨⟨Int.le_refl _, by show (0 : Int) < _; have := gA.2.2.1; omega⟩, Int.le_refl _, by show (0 : Int) < _; have := gB.2.2.1; omega⟩, e0, [], rfl, nef, by rw [upd_ne n3]; exact g4, .nil⟩
      | succ i => cases ei
    have hl3 : (upd H2 rd ob') l = some (.lst us) := by rw [upd_ne hlr]; exact hl2
    have hus3 : Rw (TI (upd H2 rd ob')) us (ablesC c) := hus2.mono fun _ _ z => z.tp fun x xs e => by
      rw [upd_ne (fun z => by rw [z, g5] at e; cases e)]
      exact e
    generalize upd H2 rd ob' = H3 at kd hi0 hl3 hus3 ⊢
    have aLen := gA.2.2.2.1
    have bLen := gB.2.2.2.1
    refine ⟨WPt P w c a b oa ob l fl rd H, ⟨_, 0, _, none, none, none, none, none, none, rfl, BO.BI.zero, hi0, ⟨us, hl3, hus3⟩, Nat.zero_le _, rfl⟩, ?_⟩
    clear hi0 hl3 hus3 kd hus2 hl2 kc g1 g2 g3 g4 g5 ka kb
    rintro n' σ Hw ⟨i, G, c6, c7, c8, c9, c10, c11, rfl, hBI, hP, ⟨us2, hlw, husw⟩, il, rfl⟩
    have g144 := gs_len aLen bLen hBI.nd hP.rng
    obtain ⟨fs, hfl, hfs⟩ := id hP.1
    have kw := hP.2.2
    try simp (maxSteps := 1000000) only [tSeq, tIfS, tTest, tOp, tUn, tCB, tCons, tNil, tVar, tC, rI0, rI, rU, rEq, rNe, tRet, tRetN, tAsg, gName, gSub, tBM, tBM0, tNext, tB, tNot, tAnd, tOr, tIf, tCall, tDrop, tBreak, tCont, L2.start, tDGet, sDPut, tTup, tLst, tDNewK, tRevL, rCat, rAppend, rPop, rSetL, tAndV, tOrV, tNotV, tSl, tPart, tNoPart, tM1, gTup, gCons, gNil, cxK, cxnK, List.map_cons, List.map_nil, List.length_cons, List.length_nil, List.replicate, List.cons_append, List.nil_append, List.append_nil, List.set_cons_zero, List.set_cons_succ, List.getElem?_cons_zero, List.getElem?_cons_succ, Option.some.injEq, V.ref.injEq, V.int.injEq, V.str.injEq, V.bl.injEq, V.ty.injEq, exists_eq_left', exists_eq_left, exists_and_left, List.cons.injEq, and_true, true_and, sc_ii, sc_ss, sc_bb, sc_ni, sc_in, sc_is, sc_si, sc_nn, decide_true, decide_false, reduceCtorEq, Bool.false_eq_true, if_true, if_false, ite_true, ite_false, exists_const, eq_self, false_and, and_false, or_false, false_or, exists_false, Evl.rLenS, rSum, wipe, tYes, exists_eq, exists_eq', rIxL, rIxT, rIxS, exists_and_right, gt_iff_lt, not_true_eq_false, not_false_eq_true, Bool.not_true, Bool.not_false, decide_eq_true_eq, Nat.reduceSub, Nat.reduceAdd, List.append_assoc, tChain, tDIn, tDNotIn, sDDel, tAug, ipI, rInt1_int, rInt1_bl]
    refine ⟨_, .inl (sq_l hfl), ?_⟩
    rw [hfs.len, List.length_map]
    by_cases e : i < G.length
    case neg =>
      rw [if_neg (by omega)]
      exact q2 (hBI.none (by omega)) _ kw
    rw [if_pos (by omega)]
    refine ⟨fun σ' H' => ∃ m', m' < 145 - i ∧ WPt P w c a b oa ob l fl rd H m' σ' H', fun _ _ h => h, ?_⟩
    obtain ⟨⟨⟨x, y⟩, ρ⟩, ei⟩ : ∃ e', G[i]? = some e' := ⟨_, List.getElem?_eq_getElem e⟩
    have inr := hP.rng _ (List.mem_of_getElem? ei)
    obtain ⟨⟨x0, x1⟩, y0, y1⟩ := inr
    dsimp only at x0 x1 y0 y1
    obtain ⟨fv, efv, fa, rfl, hfa⟩ := hfs.at (i := i) (g := [x, y]) (by rw [List.getElem?_map, ei]; rfl)
    have hfa : Hw fa = some (.tup [.int x, .int y]) := hfa
    refine ⟨_, sq_l hfl, _, atI_nat efv, fa, rfl, _, sq_t hfa, rfl, _, _, rfl, _, _, rfl, rfl, ?_⟩
    have ordm := mv_ord c1 c3 a (x, y)
    have mfl := mv_flat c a (x, y)
    have sA := (gA.st x0 x1)
    have sB := (gB.st y0 y1)
    refine forL (xs := us2) (a := l) (fun j σ H' => WPa P w c a b oa ob l fl rd i x y ρ us2 H Hw none (((ablesC c).drop j).flatMap fun ab => (letOf (stOf a x).1 ab).map fun k => (ab, k)) σ H') rfl (sq_l hlw) ⟨G, [], _, _, _, _, (fun _ h => nomatch h), rfl, hBI, ei, hP, hlw, Tp.refl _, mfl⟩ (fun j σ H' _ h => by obtain ⟨_, _, _, _, _, _, _, _, _, _, _, h, _⟩ := h; exact sq_l h) ?_ ?_
    · rintro j u σ Hj hu' ⟨Gj, dnj, c8, c9, c10, c11, -, rfl, hBj, eij, hPj, hlj, tpj, mvj⟩
      obtain ⟨ab, eab, hab⟩ := husw.get hu'
      have hab := hab.tp tpj
      have abm := List.mem_of_getElem? eab
      have abl : ab.length ≤ 3 := by
        have h3 : ∀ c : Nat, 1 ≤ c → c ≤ 3 → ∀ ab ∈ ablesC c, ab.length ≤ 3 := fun
          | 1, _, _ => by decide
          | 2, _, _ => by decide
          | 3, _, _ => by decide
        exact h3 c c1 c3 ab abm
      have ed : (ablesC c).drop j = ab :: (ablesC c).drop (j + 1) := (List.drop_eq_getElem_cons (List.getElem?_eq_some_iff.mp eab).1).trans (by rw [(List.getElem?_eq_some_iff.mp eab).2])
      rw [ed, List.flatMap_cons] at mvj
      have kj := hPj.2.2
      try simp (maxSteps := 1000000) only [tSeq, tIfS, tTest, tOp, tUn, tCB, tCons, tNil, tVar, tC, rI0, rI, rU, rEq, rNe, tRet, tRetN, tAsg, gName, gSub, tBM, tBM0, tNext, tB, tNot, tAnd, tOr, tIf, tCall, tDrop, tBreak, tCont, L2.start, tDGet, sDPut, tTup, tLst, tDNewK, tRevL, rCat, rAppend, rPop, rSetL, tAndV, tOrV, tNotV, tSl, tPart, tNoPart, tM1, gTup, gCons, gNil, cxK, cxnK, List.map_cons, List.map_nil, List.length_cons, List.length_nil, List.replicate, List.cons_append, List.nil_append, List.append_nil, List.set_cons_zero, List.set_cons_succ, List.getElem?_cons_zero, List.getElem?_cons_succ, Option.some.injEq, V.ref.injEq, V.int.injEq, V.str.injEq, V.bl.injEq, V.ty.injEq, exists_eq_left', exists_eq_left, exists_and_left, List.cons.injEq, and_true, true_and, sc_ii, sc_ss, sc_bb, sc_ni, sc_in, sc_is, sc_si, sc_nn, decide_true, decide_false, reduceCtorEq, Bool.false_eq_true, if_true, if_false, ite_true, ite_false, exists_const, eq_self, false_and, and_false, or_false, false_or, exists_false, Evl.rLenS, rSum, wipe, tYes, exists_eq, exists_eq', rIxL, rIxT, rIxS, exists_and_right, gt_iff_lt, not_true_eq_false, not_false_eq_true, Bool.not_true, Bool.not_false, decide_eq_true_eq, Nat.reduceSub, Nat.reduceAdd, List.append_assoc, tChain, tDIn, tDNotIn, sDDel, tAug, ipI, rInt1_int, rInt1_bl]
      refine forT_src ?_
      try simp (maxSteps := 1000000) only [tSeq, tIfS, tTest, tOp, tUn, tCB, tCons, tNil, tVar, tC, rI0, rI, rU, rEq, rNe, tRet, tRetN, tAsg, gName, gSub, tBM, tBM0, tNext, tB, tNot, tAnd, tOr, tIf, tCall, tDrop, tBreak, tCont, L2.start, tDGet, sDPut, tTup, tLst, tDNewK, tRevL, rCat, rAppend, rPop, rSetL, tAndV, tOrV, tNotV, tSl, tPart, tNoPart, tM1, gTup, gCons, gNil, cxK, cxnK, List.map_cons, List.map_nil, List.length_cons, List.length_nil, List.replicate, List.cons_append, List.nil_append, List.append_nil, List.set_cons_zero, List.set_cons_succ, List.getElem?_cons_zero, List.getElem?_cons_succ, Option.some.injEq, V.ref.injEq, V.int.injEq, V.str.injEq, V.bl.injEq, V.ty.injEq, exists_eq_left', exists_eq_left, exists_and_left, List.cons.injEq, and_true, true_and, sc_ii, sc_ss, sc_bb, sc_ni, sc_in, sc_is, sc_si, sc_nn, decide_true, decide_false, reduceCtorEq, Bool.false_eq_true, if_true, if_false, ite_true, ite_false, exists_const, eq_self, false_and, and_false, or_false, false_or, exists_false, Evl.rLenS, rSum, wipe, tYes, exists_eq, exists_eq', rIxL, rIxT, rIxS, exists_and_right, gt_iff_lt, not_true_eq_false, not_false_eq_true, Bool.not_true, Bool.not_false, decide_eq_true_eq, Nat.reduceSub, Nat.reduceAdd, List.append_assoc, tChain, tDIn, tDNotIn, sDDel, tAug, ipI, rInt1_int, rInt1_bl, tCallO]
      obtain ⟨dxa2, la2, ua2, hoa2, hla2, hua2⟩ := hA.kp kj
      refine ⟨.inr ⟨dxa2, _, hoa2⟩, oa, x, c, u, ab, a, rfl, hA.kp kj, hab, by omega, fun s _ _ es => ?_, fun h => absurd ⟨x0, x1⟩ h⟩
      rw [sA.1] at es
      cases es
      refine ⟨fun g hg => ((good_parts sA.2 (by omega)).2.1 g hg).1, fun r H5 hr5 k5 => ?_⟩
      obtain ⟨ra, rfl, hra⟩ := hr5
      generalize els : letOf (stOf a x).1 ab = ls at hra mvj
      generalize etl : (((ablesC c).drop (j + 1)).flatMap fun ab => (letOf (stOf a x).1 ab).map fun k => (ab, k)) = tl at mvj
      refine forTC (fun t σ H' => WPa P w c a b oa ob l fl rd i x y ρ us2 H H5 (some (some u)) (((ls.drop t).map fun k => (ab, k)) ++ tl) σ H') (sq_t hra) ⟨Gj, dnj, _, _, _, _, (fun _ h => by cases h; rfl), rfl, hBj, eij, hPj.kp k5, k5 _ _ not0 hlj, Tp.refl _, mvj⟩ (fun t σ H' _ h => by obtain ⟨_, _, _, _, _, _, _, _, _, _, _, _, h, _⟩ := h; exact sq_t (h _ _ hra)) ?_ ?_
      · rintro t v σ Ht hv ⟨Gt, dnt, d8, c9, c10, c11, hd8, rfl, hBt, eit, hPt, hlt, tpt, mvt⟩
        have := hd8 _ rfl
        subst this
        obtain ⟨k, ek, rfl⟩ := map_get hv
        have edt : ls.drop t = k :: ls.drop (t + 1) := (List.drop_eq_getElem_cons (List.getElem?_eq_some_iff.mp ek).1).trans (by rw [(List.getElem?_eq_some_iff.mp ek).2])
        rw [edt, List.map_cons, List.cons_append] at mvt
        have zm : (ab, k) ∈ mvC c a (x, y) := by rw [mvt]; simp
        obtain ⟨zl, z0, z1, zin⟩ := po3 _ (mv_in zm)
        dsimp only at zl z0 z1 zin
        try simp (maxSteps := 1000000) only [tSeq, tIfS, tTest, tOp, tUn, tCB, tCons, tNil, tVar, tC, rI0, rI, rU, rEq, rNe, tRet, tRetN, tAsg, gName, gSub, tBM, tBM0, tNext, tB, tNot, tAnd, tOr, tIf, tCall, tDrop, tBreak, tCont, L2.start, tDGet, sDPut, tTup, tLst, tDNewK, tRevL, rCat, rAppend, rPop, rSetL, tAndV, tOrV, tNotV, tSl, tPart, tNoPart, tM1, gTup, gCons, gNil, cxK, cxnK, List.map_cons, List.map_nil, List.length_cons, List.length_nil, List.replicate, List.cons_append, List.nil_append, List.append_nil, List.set_cons_zero, List.set_cons_succ, List.getElem?_cons_zero, List.getElem?_cons_succ, Option.some.injEq, V.ref.injEq, V.int.injEq, V.str.injEq, V.bl.injEq, V.ty.injEq, exists_eq_left', exists_eq_left, exists_and_left, List.cons.injEq, and_true, true_and, sc_ii, sc_ss, sc_bb, sc_ni, sc_in, sc_is, sc_si, sc_nn, decide_true, decide_false, reduceCtorEq, Bool.false_eq_true, if_true, if_false, ite_true, ite_false, exists_const, eq_self, false_and, and_false, or_false, false_or, exists_false, Evl.rLenS, rSum, wipe, tYes, exists_eq, exists_eq', rIxL, rIxT, rIxS, exists_and_right, gt_iff_lt, not_true_eq_false, not_false_eq_true, Bool.not_true, Bool.not_false, decide_eq_true_eq, Nat.reduceSub, Nat.reduceAdd, List.append_assoc, tChain, tDIn, tDNotIn, sDDel, tAug, ipI, rInt1_int, rInt1_bl, tMeth, tCallO]
        obtain ⟨ft, hft, hfts⟩ := id hPt.1
        obtain ⟨kvt, hkt, hkk, hkv⟩ := id hPt.2.1
        have kt := hPt.2.2
        obtain ⟨fv2, efv2, fa2, rfl, hfa2⟩ := hfts.at (i := i) (g := [x, y]) (by rw [List.getElem?_map, eit]; rfl)
        have hfa2 : Ht fa2 = some (.tup [.int x, .int y]) := hfa2
        obtain ⟨ρl, -, lr, rus, elr, nlr, hlr2, hrus⟩ := hkv i _ eit
        dsimp only at ρl hrus
        have ndk : (kvt.map (·.1)).Nodup := by rw [hkk]; exact keys_nd hBt.nd
        have itl := (List.getElem?_eq_some_iff.mp eit).1
        have gt144 := gs_len aLen bLen hBt.nd hPt.rng
        try simp (maxSteps := 1000000) only [tSeq, tIfS, tTest, tOp, tUn, tCB, tCons, tNil, tVar, tC, rI0, rI, rU, rEq, rNe, tRet, tRetN, tAsg, gName, gSub, tBM, tBM0, tNext, tB, tNot, tAnd, tOr, tIf, tCall, tDrop, tBreak, tCont, L2.start, tDGet, sDPut, tTup, tLst, tDNewK, tRevL, rCat, rAppend, rPop, rSetL, tAndV, tOrV, tNotV, tSl, tPart, tNoPart, tM1, gTup, gCons, gNil, cxK, cxnK, List.map_cons, List.map_nil, List.length_cons, List.length_nil, List.replicate, List.cons_append, List.nil_append, List.append_nil, List.set_cons_zero, List.set_cons_succ, List.getElem?_cons_zero, List.getElem?_cons_succ, Option.some.injEq, V.ref.injEq, V.int.injEq, V.str.injEq, V.bl.injEq, V.ty.injEq, exists_eq_left', exists_eq_left, exists_and_left, List.cons.injEq, and_true, true_and, sc_ii, sc_ss, sc_bb, sc_ni, sc_in, sc_is, sc_si, sc_nn, decide_true, decide_false, reduceCtorEq, Bool.false_eq_true, if_true, if_false, ite_true, ite_false, exists_const, eq_self, false_and, and_false, or_false, false_or, exists_false, Evl.rLenS, rSum, wipe, tYes, exists_eq, exists_eq', rIxL, rIxT, rIxS, exists_and_right, gt_iff_lt, not_true_eq_false, not_false_eq_true, Bool.not_true, Bool.not_false, decide_eq_true_eq, Nat.reduceSub, Nat.reduceAdd, List.append_assoc, tChain, tDIn, tDNotIn, sDDel, tAug, ipI, rInt1_int, rInt1_bl, tNGet]
        refine ⟨_, sq_l hft, _, atI_nat efv2, kvt, hkt, keyI (x, y), keyI_nk (s := (x, y)) hfa2, _, valN_nd ndk elr, ?_⟩
        refine ⟨small (by decide), fun p np => ⟨by decide, fun p1 np1 => ?_⟩⟩
        have kp := (Kp.new np (o := .tup [u, .int k])).trans (Kp.new np1 (o := .lst [.ref p])) (S := [])
        refine ⟨lr, rfl, _, kp _ _ not0 hlr2, _, upd_same, by rw [hrus.len]; exact Nat.le_of_lt (smallL (by show ρ.length + 1 ≤ _; omega)), fun p2 np2 => ?_⟩
        have hpt : (upd (upd Ht p (.tup [u, .int k])) p1 (.lst [.ref p])) p = some (.tup [u, .int k]) := (Kp.new np1 : Kp [] _ _) _ _ not0 upd_same
        have kq := kp.trans (Kp.new np2 (o := .lst (rus ++ [.ref p])))
        have habt := (hab.tp (k5.tps.trans tpt)).tp kq.tps
        have hrow : Rw (PrAt (upd (upd (upd Ht p (.tup [u, .int k])) p1 (.lst [.ref p])) p2 (.lst (rus ++ [.ref p])))) (rus ++ [.ref p]) (ρ ++ [(ab, k)]) := (hrus.mono fun _ _ z => z.tp kq.tps).snoc ⟨p, u, rfl, (Kp.new np2 : Kp [] _ _) _ _ not0 hpt, habt⟩
        have hp2 : (upd (upd (upd Ht p (.tup [u, .int k])) p1 (.lst [.ref p])) p2 (.lst (rus ++ [.ref p]))) p2 = some (.lst (rus ++ [.ref p])) := upd_same
        have np20 : H p2 = none := (kt.trans kp).free0 np2
        have nfp2 : p2 ≠ fl := (ne_of_none (kp _ _ not0 hft) np2).symm
        generalize upd (upd (upd Ht p (.tup [u, .int k])) p1 (.lst [.ref p])) p2 (.lst (rus ++ [.ref p])) = H7 at kq habt hrow hp2 ⊢
        have k7 := kt.trans kq
        obtain ⟨dxb2, lb2, ub2, hob2, hlb2, hub2⟩ := hB.kp k7
        refine ⟨.inr ⟨dxb2, _, hob2⟩, ob, y, c, u, ab, b, rfl, hB.kp k7, habt, by omega, fun s _ _ es => ?_, fun h => absurd ⟨y0, y1⟩ h⟩
        rw [sB.1] at es
        cases es
        refine ⟨fun g hg => ((good_parts sB.2 (by omega)).2.1 g hg).1, fun r H8 hr8 k8 => ?_⟩
        obtain ⟨rb, rfl, hrb⟩ := hr8
        have P8 := hPt.kp (kq.trans k8)
        have k08 := k7.trans k8
        try simp (maxSteps := 1000000) only [tSeq, tIfS, tTest, tOp, tUn, tCB, tCons, tNil, tVar, tC, rI0, rI, rU, rEq, rNe, tRet, tRetN, tAsg, gName, gSub, tBM, tBM0, tNext, tB, tNot, tAnd, tOr, tIf, tCall, tDrop, tBreak, tCont, L2.start, tDGet, sDPut, tTup, tLst, tDNewK, tRevL, rCat, rAppend, rPop, rSetL, tAndV, tOrV, tNotV, tSl, tPart, tNoPart, tM1, gTup, gCons, gNil, cxK, cxnK, List.map_cons, List.map_nil, List.length_cons, List.length_nil, List.replicate, List.cons_append, List.nil_append, List.append_nil, List.set_cons_zero, List.set_cons_succ, List.getElem?_cons_zero, List.getElem?_cons_succ, Option.some.injEq, V.ref.injEq, V.int.injEq, V.str.injEq, V.bl.injEq, V.ty.injEq, exists_eq_left', exists_eq_left, exists_and_left, List.cons.injEq, and_true, true_and, sc_ii, sc_ss, sc_bb, sc_ni, sc_in, sc_is, sc_si, sc_nn, decide_true, decide_false, reduceCtorEq, Bool.false_eq_true, if_true, if_false, ite_true, ite_false, exists_const, eq_self, false_and, and_false, or_false, false_or, exists_false, Evl.rLenS, rSum, wipe, tYes, exists_eq, exists_eq', rIxL, rIxT, rIxS, exists_and_right, gt_iff_lt, not_true_eq_false, not_false_eq_true, Bool.not_true, Bool.not_false, decide_eq_true_eq, Nat.reduceSub, Nat.reduceAdd, List.append_assoc, tChain, tDIn, tDNotIn, sDDel, tAug, ipI, rInt1_int, rInt1_bl, rIn]
        refine ⟨_, .inr (sq_t hrb), rfl, flat_ints _, ?_⟩
        rw [inV_int]
        have lin : k ∈ letOf (stOf b y).1 ab ↔ letG ab k (stOf b y).1 = true := by
          rw [letOf_eq, List.mem_filter]
          exact ⟨fun h => h.2, fun h => ⟨zin, h⟩⟩
        by_cases hm : k ∈ letOf (stOf b y).1 ab
        case neg =>
          rw [decide_eq_false hm, if_pos (by simp)]
          have et : stC a b (x, y) (ab, k) = none := by
            unfold stC
            exact if_neg fun h => hm (lin.mpr h)
          refine q1 _ p2 _ H8 (hBt.parts po2 (fun _ _ h => mv_in h) eit zm et fun y' hy' lt' => ?_) (by rw [List.length_append]; show ρ.length + 1 ≤ 200; omega) np20 (k8 _ _ not0 hp2) (hrow.mono fun _ _ z => z.tp k8.tps) k08
          rw [mvt] at hy'
          rcases List.mem_append.mp hy' with hy' | hy'
          · exact hy'
          · have o2 := ordm
            rw [mvt] at o2
            rcases List.mem_cons.mp hy' with hy' | hy'
            · subst hy'
              exact absurd lt' (Nat.lt_irrefl _)
            · exact absurd ((List.pairwise_cons.mp (List.pairwise_append.mp o2).2.1).1 y' hy') (by omega)
        rw [decide_eq_true hm, if_neg (by simp)]
        have et : stC a b (x, y) (ab, k) = some (nxt a x k, nxt b y k) := by
          unfold stC
          exact if_pos (lin.mp hm)
        have inrn := inR_next gA gB ⟨⟨x0, x1⟩, y0, y1⟩ z0 z1 et
        obtain ⟨hBn, ein⟩ := hBt.note eit zm et fun y' hy' => by
          have o2 := ordm
          rw [mvt] at o2
          exact (List.pairwise_append.mp o2).2.2 y' hy' _ List.mem_cons_self
        have mvn : mvC c a (x, y) = (dnt ++ [(ab, k)]) ++ ((ls.drop (t + 1)).map (fun k => (ab, k)) ++ tl) := by rw [mvt, List.append_assoc]; rfl
        obtain ⟨dxa3, la3, ua3, hoa3, hla3, hua3⟩ := hA.kp k08
        refine ⟨dxa3, _, hoa3, rfl, oa, x, k, c, a, rfl, hA.kp k08, fun s _ _ es => ?_, fun h => absurd ⟨x0, x1⟩ h⟩
        rw [sA.1] at es
        cases es
        have nxa := gA.nx x0 x1 z0 z1
        have nxb := gB.nx y0 y1 z0 z1
        refine ⟨z0, by rw [(good_parts sA.2 (by omega)).1]; exact z1, fun r er => ?_⟩
        rw [nxa.1] at er
        cases er
        obtain ⟨dxb3, lb3, ub3, hob3, hlb3, hub3⟩ := hB.kp k08
        refine ⟨dxb3, _, hob3, rfl, ob, y, k, c, b, rfl, hB.kp k08, fun s _ _ es => ?_, fun h => absurd ⟨y0, y1⟩ h⟩
        rw [sB.1] at es
        cases es
        refine ⟨z0, by rw [(good_parts sB.2 (by omega)).1]; exact z1, fun r er => ?_⟩
        rw [nxb.1] at er
        cases er
        refine ⟨small (by decide), fun g ng => ?_⟩
        have kg := (Kp.new ng : Kp [] H8 (upd H8 g (.tup [.int (nxt a x k), .int (nxt b y k)])))
        have hg : (upd H8 g (.tup [.int (nxt a x k), .int (nxt b y k)])) g = some (.tup [.int (nxt a x k), .int (nxt b y k)]) := upd_same
        have P9 := P8.kp kg
        have hp9 := (k8.trans kg) _ _ not0 hp2
        have hl9 := (kq.trans (k8.trans kg)) _ _ not0 hlt
        have hrow9 := hrow.mono fun _ _ z => z.tp (k8.trans kg).tps
        have tp9 := tpt.trans (kq.trans (k8.trans kg)).tps
        generalize upd H8 g (.tup [.int (nxt a x k), .int (nxt b y k)]) = H9 at kg hg P9 hp9 hl9 hrow9 tp9 ⊢
        obtain ⟨f9, hf9, hfs9⟩ := id P9.1
        obtain ⟨kv9, hk9, hkk9, hkv9⟩ := id P9.2.1
        try simp (maxSteps := 1000000) only [tSeq, tIfS, tTest, tOp, tUn, tCB, tCons, tNil, tVar, tC, rI0, rI, rU, rEq, rNe, tRet, tRetN, tAsg, gName, gSub, tBM, tBM0, tNext, tB, tNot, tAnd, tOr, tIf, tCall, tDrop, tBreak, tCont, L2.start, tDGet, sDPut, tTup, tLst, tDNewK, tRevL, rCat, rAppend, rPop, rSetL, tAndV, tOrV, tNotV, tSl, tPart, tNoPart, tM1, gTup, gCons, gNil, cxK, cxnK, List.map_cons, List.map_nil, List.length_cons, List.length_nil, List.replicate, List.cons_append, List.nil_append, List.append_nil, List.set_cons_zero, List.set_cons_succ, List.getElem?_cons_zero, List.getElem?_cons_succ, Option.some.injEq, V.ref.injEq, V.int.injEq, V.str.injEq, V.bl.injEq, V.ty.injEq, exists_eq_left', exists_eq_left, exists_and_left, List.cons.injEq, and_true, true_and, sc_ii, sc_ss, sc_bb, sc_ni, sc_in, sc_is, sc_si, sc_nn, decide_true, decide_false, reduceCtorEq, Bool.false_eq_true, if_true, if_false, ite_true, ite_false, exists_const, eq_self, false_and, and_false, or_false, false_or, exists_false, Evl.rLenS, rSum, wipe, tYes, exists_eq, exists_eq', rIxL, rIxT, rIxS, exists_and_right, gt_iff_lt, not_true_eq_false, not_false_eq_true, Bool.not_true, Bool.not_false, decide_eq_true_eq, Nat.reduceSub, Nat.reduceAdd, List.append_assoc, tChain, tDIn, tDNotIn, sDDel, tAug, ipI, rInt1_int, rInt1_bl, tNNotIn]
        refine ⟨kv9, hk9, keyI (nxt a x k, nxt b y k), keyI_nk (s := (nxt a x k, nxt b y k)) hg, ?_⟩
        have eno := BO.noteO_some (ρ := ρ) (g := Gt) et
        have mk : keyI (nxt a x k, nxt b y k) ∈ kv9.map (·.1) ↔ (nxt a x k, nxt b y k) ∈ Gt.map (·.1) := by
          rw [hkk9]
          constructor
          · intro h
            obtain ⟨e', he', ee⟩ := List.mem_map.mp h
            exact List.mem_map.mpr ⟨e', he', keyI_inj ee⟩
          · intro h
            obtain ⟨e', he', ee⟩ := List.mem_map.mp h
            exact List.mem_map.mpr ⟨e', he', by rw [← ee]⟩
        rw [valN_isK]
        by_cases hgm : (nxt a x k, nxt b y k) ∈ Gt.map (·.1)
        · rw [decide_eq_true (mk.mpr hgm), if_neg (by simp)]
          rw [if_pos hgm] at eno
          rw [eno] at hBn
          exact ⟨Gt, _, _, _, _, _, (fun _ h => by cases h; rfl), rfl, hBn, eit, P9, hl9, tp9, mvn⟩
        · rw [decide_eq_false (fun h => hgm (mk.mp h)), if_pos (by simp)]
          rw [if_neg hgm] at eno
          rw [eno] at hBn ein
          have kvl : kv9.length = Gt.length := by
            have := congrArg List.length hkk9
            simpa using this
          try simp (maxSteps := 1000000) only [tSeq, tIfS, tTest, tOp, tUn, tCB, tCons, tNil, tVar, tC, rI0, rI, rU, rEq, rNe, tRet, tRetN, tAsg, gName, gSub, tBM, tBM0, tNext, tB, tNot, tAnd, tOr, tIf, tCall, tDrop, tBreak, tCont, L2.start, tDGet, sDPut, tTup, tLst, tDNewK, tRevL, rCat, rAppend, rPop, rSetL, tAndV, tOrV, tNotV, tSl, tPart, tNoPart, tM1, gTup, gCons, gNil, cxK, cxnK, List.map_cons, List.map_nil, List.length_cons, List.length_nil, List.replicate, List.cons_append, List.nil_append, List.append_nil, List.set_cons_zero, List.set_cons_succ, List.getElem?_cons_zero, List.getElem?_cons_succ, Option.some.injEq, V.ref.injEq, V.int.injEq, V.str.injEq, V.bl.injEq, V.ty.injEq, exists_eq_left', exists_eq_left, exists_and_left, List.cons.injEq, and_true, true_and, sc_ii, sc_ss, sc_bb, sc_ni, sc_in, sc_is, sc_si, sc_nn, decide_true, decide_false, reduceCtorEq, Bool.false_eq_true, if_true, if_false, ite_true, ite_false, exists_const, eq_self, false_and, and_false, or_false, false_or, exists_false, Evl.rLenS, rSum, wipe, tYes, exists_eq, exists_eq', rIxL, rIxT, rIxS, exists_and_right, gt_iff_lt, not_true_eq_false, not_false_eq_true, Bool.not_true, Bool.not_false, decide_eq_true_eq, Nat.reduceSub, Nat.reduceAdd, List.append_assoc, tChain, tDIn, tDNotIn, sDDel, tAug, ipI, rInt1_int, rInt1_bl, sNPut]
          refine ⟨kv9, hk9, keyI (nxt a x k, nxt b y k), keyI_nk (s := (nxt a x k, nxt b y k)) hg, smallL (by omega), fun ob2 hob2 => ?_⟩
          obtain ⟨hfa9, P10⟩ := P9.add (t := (nxt a x k, nxt b y k)) (r := ρ ++ [(ab, k)]) (g := g) (l := p2) nfl0 nrd0 hg hp9 hrow9 nfp2 (by rw [List.length_append]; show ρ.length + 1 ≤ _; omega) inrn hgm hk9 hkk9 hkv9 hob2 hf9
          have nlr9 : l ≠ rd := dn_nl hk9 hl9
          refine ⟨.inl ⟨rfl, _, sq_l hfa9⟩, f9, hfa9, by rw [hfs9.len, List.length_map]; exact smallL (by omega), ?_⟩
          refine ⟨_, _, _, _, _, _, (fun _ h => by cases h; rfl), rfl, hBn, ein, P10, ?_, ?_, mvn⟩
          · rw [upd_ne hlf, upd_ne nlr9]
            exact hl9
          · exact tp9.trans ((show Tp H9 (upd H9 rd ob2) from fun xx xs ee => by rw [upd_ne (dn_nt hk9 ee)]; exact ee).trans ((Tp.refl _).putL hfa9))
      · rintro σ H6 ⟨G6, dn6, d8, c9, c10, c11, -, rfl, hB6, ei6, hP6, hl6, tp6, mv6⟩
        rw [List.length_map, List.drop_length, List.map_nil, List.nil_append] at mv6
        exact ⟨G6, dn6, _, _, _, _, (fun _ h => nomatch h), rfl, hB6, ei6, hP6, hl6, (tpj.trans k5.tps).trans tp6, by subst etl; exact mv6⟩
    · rintro σ H4 ⟨G4, dn4, c8, c9, c10, c11, -, rfl, hB4, ei4, hP4, hl4, tp4, mv4⟩
      try simp (maxSteps := 1000000) only [tSeq, tIfS, tTest, tOp, tUn, tCB, tCons, tNil, tVar, tC, rI0, rI, rU, rEq, rNe, tRet, tRetN, tAsg, gName, gSub, tBM, tBM0, tNext, tB, tNot, tAnd, tOr, tIf, tCall, tDrop, tBreak, tCont, L2.start, tDGet, sDPut, tTup, tLst, tDNewK, tRevL, rCat, rAppend, rPop, rSetL, tAndV, tOrV, tNotV, tSl, tPart, tNoPart, tM1, gTup, gCons, gNil, cxK, cxnK, List.map_cons, List.map_nil, List.length_cons, List.length_nil, List.replicate, List.cons_append, List.nil_append, List.append_nil, List.set_cons_zero, List.set_cons_succ, List.getElem?_cons_zero, List.getElem?_cons_succ, Option.some.injEq, V.ref.injEq, V.int.injEq, V.str.injEq, V.bl.injEq, V.ty.injEq, exists_eq_left', exists_eq_left, exists_and_left, List.cons.injEq, and_true, true_and, sc_ii, sc_ss, sc_bb, sc_ni, sc_in, sc_is, sc_si, sc_nn, decide_true, decide_false, reduceCtorEq, Bool.false_eq_true, if_true, if_false, ite_true, ite_false, exists_const, eq_self, false_and, and_false, or_false, false_or, exists_false, Evl.rLenS, rSum, wipe, tYes, exists_eq, exists_eq', rIxL, rIxT, rIxS, exists_and_right, gt_iff_lt, not_true_eq_false, not_false_eq_true, Bool.not_true, Bool.not_false, decide_eq_true_eq, Nat.reduceSub, Nat.reduceAdd, List.append_assoc, tChain, tDIn, tDNotIn, sDDel, tAug, ipI, rInt1_int, rInt1_bl]
      have hB5 := hB4.next ei4 (fun z hz => by
        rw [mv4, husw.len, List.drop_length, List.flatMap_nil, List.append_nil] at hz
        exact hz)
      have := (List.getElem?_eq_some_iff.mp ei4).1
      refine ⟨145 - (i + 1), by omega, i + 1, G4, _, _, _, _, _, _, rfl, hB5, hP4, ⟨us2, hl4, husw.mono fun _ _ z => z.tp tp4⟩, this, rfl⟩
end
end My

set_option Elab.async false
set_option linter.all false
set_option maxRecDepth 100000
set_option maxHeartbeats 4000000
namespace My
open PySem L2 NdefX StX
abbrev s_law_pairs : Stmt := top 25
theorem sc_law_pairs : FnScope ["_law_many", "_law_pairs_here", "_law_code", "_law_able", "_law_k", "_law_one"] ["_law_many"] (defScope s_law_pairs) := ⟨rfl, rfl, rfl, by decide +kernel, rfl, by decide +kernel, by decide +kernel⟩
def prD (p : Pr) : PyData := .tuple [.tuple (p.1.map PyData.int), .int p.2]
theorem PrAt.dp {K : PySem.W.Frag} {H : Hp} {v : V} {p : Pr} (h : PrAt H v p) : Dp K H v (prD p) := by
  obtain ⟨a, w, rfl, ha, hw⟩ := h
  exact .tup (sq_t ha) (.cons hw.dp (.cons (.int _) .nil))
def prG (H : Hp) : V → Pr
  | .ref a => match H a with
    | some (.tup [w, .int k]) => (tiG H w, k)
    | _ => ([], 0)
  | _ => ([], 0)
theorem prG_of {H : Hp} {v : V} {p : Pr} (h : PrAt H v p) : prG H v = p := by
  obtain ⟨a, w, rfl, ha, hw⟩ := h
  have e : prG H (.ref a) = (tiG H w, p.2) := by
    unfold prG
    dsimp only
    rw [ha]
  rw [e, tiG_of hw]
def prLt (a b : Pr) : Bool := PySem.W.dataLt (prD a) (prD b)
theorem prD_dep (p : Pr) : (prD p).depth ≤ 5 := by
  have h1 := tiD_dep p.1
  unfold tiD at h1
  show max (PyData.depth (.tuple (p.1.map PyData.int))) (max (PyData.depth (.int p.2)) 0) + 1 ≤ 5
  have : PyData.depth (.int p.2) ≤ 1 := by simp [PyData.depth]
  omega
theorem prD_alike (a b : Pr) : PySem.W.alike (prD a) (prD b) = true := by
  show (PySem.W.alikeAll (a.1.map PyData.int) (b.1.map PyData.int) && (PySem.W.alike (.int a.2) (.int b.2) && true)) = true
  rw [alikeI]
  rfl
def psF (c j : Nat) : List Pr := (ableI (((1 + j : Nat) : Int)) c).map fun k => (ableI (((1 + j : Nat) : Int)) c, k)
def psU (c : Nat) : List Pr := (List.range (2 ^ c - 1)).flatMap (psF c)
theorem psU_ok : ∀ c : Nat, 1 ≤ c → c ≤ 3 → (psU c).Perm (psC c) ∧ ((psC c).Pairwise fun a b => prLt b a = false) ∧ ∀ a ∈ psC c, ∀ b ∈ psC c, prLt a b = false → prLt b a = false → a = b
  | 1, _, _ => by refine ⟨?_, ?_, ?_⟩ <;> decide +kernel
  | 2, _, _ => by refine ⟨?_, ?_, ?_⟩ <;> decide +kernel
  | 3, _, _ => by refine ⟨?_, ?_, ?_⟩ <;> decide +kernel
section
variable {P : Program} {w : World} {K : PySem.W.Frag} {mg : Str → Option Value} {base : Heap} {t1 t2 : Tok}
def spPs : Sp := fun vs H Q _ => ∃ (c : Nat), vs = [.int (c : Nat)] ∧ 1 ≤ c ∧ c ≤ 3 ∧ ∀ l us H', H l = none → H' l = some (.lst us) → Rw (PrAt H') us (psC c) → Kp [] H H' → Q (.ref l) H'
theorem ok_law_pairs {f : Addr} {fd : FuncData} (D : Df K mg "_law_pairs" s_law_pairs ["_law_many"] f fd) (T : Bt mg t1 t2) : FnOk P w K mg base CX0 1 f fd ["_law_many"] spPs := by
  refine D.F.ok sc_law_pairs (fun vs H Q E h => ?_) (fun cdv A outer s H vs Q E hr h => ?_)
  · obtain ⟨_, rfl, _⟩ := h
    rfl
  · obtain ⟨c, rfl, c1, c3, q⟩ := h
    refine ⟨_, (pss_cons (ps_set (i := 1) sc_law_pairs.nd rfl (Or.inl rfl) (pe_lst pa_nil))
      (pss_cons (ps_for PassesOwn.never rfl (pi_range2 rfl T.b_range (pa_cons pe_int (pa_cons (pe_ix (r := rIxT K) ix_tup (pe_tup (pa_cons pe_int (pa_cons pe_int (pa_cons pe_int pa_nil)))) (pe_op op_sub (pv 0) pe_int) (fun _ _ => rfl)) pa_nil))) (pg_name (i := 2) sc_law_pairs.nd rfl (Or.inr rfl)) (pss_cons (ps_set (i := 3) sc_law_pairs.nd rfl (Or.inl rfl) (pe_callTy call_tuple_of (by rfl) T.b_tuple (by decide +kernel) (pa_cons (pe_lc (own := [("_law_k", 4)]) (g := (gName 4)) rfl sc_law_pairs.nd (pi_range1 rfl T.b_range (pa_cons (pv 0) pa_nil)) (blkOk_by (N := ["_law_many", "_law_pairs_here", "_law_code", "_law_able", "_law_k", "_law_one"]) (sc := defScope s_law_pairs) (by decide +kernel)) (fun _ _ _ _ _ => (pg_name (i := 4) sc_law_pairs.nd rfl (Or.inl rfl))) (fun _ _ _ _ _ => (pts_one (pt_cmpR op_eq (pe_op op_mod (pe_callTy (T := "int") (r := rInt1) call_int1 (by rfl) T.b_int (by decide +kernel) (pa_cons (pe_op op_fdiv (pv 2) (pe_ix (r := rIxT K) ix_tup (pe_tup (pa_cons pe_int (pa_cons pe_int (pa_cons pe_int pa_nil)))) (pv 4) (fun _ _ => rfl))) pa_nil)) pe_int) pe_int (nomark _)))) (fun _ _ _ _ _ => (pv 4))) pa_nil)))
      (pss_one (ps_for PassesOwn.never rfl (pi_tup (pv 3)) (pg_name (i := 5) sc_law_pairs.nd rfl (Or.inl rfl)) (pss_one (ps_expr (pe_bm PySem.F.plainAttrs_list PySem.F.slot_list_append PySem.F.type_list_append mt_append (pv 1) (pa_cons (pe_tup (pa_cons (pv 3) (pa_cons (pv 5) pa_nil))) pa_nil))))))))
      (pss_one (ps_ret (pe_callB (id := "sorted") (r := rSortedD K) (cr_sortedD (hu6 hr)) (by rfl) T.b_sorted (by decide +kernel) (pa_cons (pv 1) pa_nil)))))), ?_⟩
    try simp (maxSteps := 1000000) only [tSeq, tIfS, tTest, tOp, tUn, tCB, tCons, tNil, tVar, tC, rI0, rI, rU, rEq, rNe, tRet, tRetN, tAsg, gName, gSub, tBM, tBM0, tNext, tB, tNot, tAnd, tOr, tIf, tCall, tDrop, tBreak, tCont, L2.start, tDGet, sDPut, tTup, tLst, tDNewK, tRevL, rCat, rAppend, rPop, rSetL, tAndV, tOrV, tNotV, tSl, tPart, tNoPart, tM1, gTup, gCons, gNil, cxK, cxnK, List.map_cons, List.map_nil, List.length_cons, List.length_nil, List.replicate, List.cons_append, List.nil_append, List.append_nil, List.set_cons_zero, List.set_cons_succ, List.getElem?_cons_zero, List.getElem?_cons_succ, Option.some.injEq, V.ref.injEq, V.int.injEq, V.str.injEq, V.bl.injEq, V.ty.injEq, exists_eq_left', exists_eq_left, exists_and_left, List.cons.injEq, and_true, true_and, sc_ii, sc_ss, sc_bb, sc_ni, sc_in, sc_is, sc_si, sc_nn, decide_true, decide_false, reduceCtorEq, Bool.false_eq_true, if_true, if_false, ite_true, ite_false, exists_const, eq_self, false_and, and_false, or_false, false_or, exists_false, Evl.rLenS, rSum, wipe, tYes, exists_eq, exists_eq', rIxL, rIxT, rIxS, exists_and_right, gt_iff_lt, not_true_eq_false, not_false_eq_true, Bool.not_true, Bool.not_false, decide_eq_true_eq, Nat.reduceSub, Nat.reduceAdd, List.append_assoc, tChain, tDIn, tDNotIn, sDDel, tAug, ipI, rInt1_int, rInt1_bl]
    refine ⟨Nat.zero_le _, fun p np => ?_⟩
    have k0 : Kp [] H (upd H p (.lst [])) := Kp.new np
    have hp0 : (upd H p (.lst [])) p = some (.lst []) := upd_same
    generalize upd H p (.lst []) = H0 at k0 hp0 ⊢
    have pw : ∃ d : Nat, atI [V.int 2, V.int 4, V.int 8] (((c : Nat) : Int) - 1) = some (.int (d : Nat)) ∧ d = 2 ^ c ∧ d ≤ 8 := by
      match c, c1, c3 with
      | 1, _, _ => exact ⟨2, rfl, rfl, by decide⟩
      | 2, _, _ => exact ⟨4, rfl, rfl, by decide⟩
      | 3, _, _ => exact ⟨8, rfl, rfl, by decide⟩
    obtain ⟨d, ed, ed2, d8⟩ := pw
    refine forN2 1 d (by decide) (by omega) (fun j σ H' => ∃ (us : List V) (c2 c3 c5 : Option V), σ = [some (.int (c : Nat)), some (.ref p), c2, c3, none, c5] ∧ H' p = some (.lst us) ∧ Rw (PrAt H') us ((List.range j).flatMap (psF c)) ∧ Kp [] H H') (fun R h => ?_) (fun H1 k1 => ⟨_, _, _, _, rfl, k1 _ _ not0 hp0, .nil, k0.trans k1⟩) ?_ ?_
    · try simp (maxSteps := 1000000) only [tSeq, tIfS, tTest, tOp, tUn, tCB, tCons, tNil, tVar, tC, rI0, rI, rU, rEq, rNe, tRet, tRetN, tAsg, gName, gSub, tBM, tBM0, tNext, tB, tNot, tAnd, tOr, tIf, tCall, tDrop, tBreak, tCont, L2.start, tDGet, sDPut, tTup, tLst, tDNewK, tRevL, rCat, rAppend, rPop, rSetL, tAndV, tOrV, tNotV, tSl, tPart, tNoPart, tM1, gTup, gCons, gNil, cxK, cxnK, List.map_cons, List.map_nil, List.length_cons, List.length_nil, List.replicate, List.cons_append, List.nil_append, List.append_nil, List.set_cons_zero, List.set_cons_succ, List.getElem?_cons_zero, List.getElem?_cons_succ, Option.some.injEq, V.ref.injEq, V.int.injEq, V.str.injEq, V.bl.injEq, V.ty.injEq, exists_eq_left', exists_eq_left, exists_and_left, List.cons.injEq, and_true, true_and, sc_ii, sc_ss, sc_bb, sc_ni, sc_in, sc_is, sc_si, sc_nn, decide_true, decide_false, reduceCtorEq, Bool.false_eq_true, if_true, if_false, ite_true, ite_false, exists_const, eq_self, false_and, and_false, or_false, false_or, exists_false, Evl.rLenS, rSum, wipe, tYes, exists_eq, exists_eq', rIxL, rIxT, rIxS, exists_and_right, gt_iff_lt, not_true_eq_false, not_false_eq_true, Bool.not_true, Bool.not_false, decide_eq_true_eq, Nat.reduceSub, Nat.reduceAdd, List.append_assoc, tChain, tDIn, tDNotIn, sDDel, tAug, ipI, rInt1_int, rInt1_bl]
      exact ⟨small (by decide), fun t nt => ⟨_, sq_t upd_same, _, ed, h _ (Kp.new nt)⟩⟩
    · rintro j σ H1 hj ⟨us, c2, c3', c5, rfl, hp1, hus, k1⟩
      have pl : ∀ j, 1 + j ≤ 8 → ((List.range j).flatMap (psF c)).length ≤ 12 := by
        match c, c1, c3 with
        | 1, _, _ => intro j hj; match j, hj with | 0, _ => decide +kernel | 1, _ => decide +kernel | 2, _ => decide +kernel | 3, _ => decide +kernel | 4, _ => decide +kernel | 5, _ => decide +kernel | 6, _ => decide +kernel | 7, _ => decide +kernel | j + 8, h => omega
        | 2, _, _ => intro j hj; match j, hj with | 0, _ => decide +kernel | 1, _ => decide +kernel | 2, _ => decide +kernel | 3, _ => decide +kernel | 4, _ => decide +kernel | 5, _ => decide +kernel | 6, _ => decide +kernel | 7, _ => decide +kernel | j + 8, h => omega
        | 3, _, _ => intro j hj; match j, hj with | 0, _ => decide +kernel | 1, _ => decide +kernel | 2, _ => decide +kernel | 3, _ => decide +kernel | 4, _ => decide +kernel | 5, _ => decide +kernel | 6, _ => decide +kernel | 7, _ => decide +kernel | j + 8, h => omega
      try simp (maxSteps := 1000000) only [tSeq, tIfS, tTest, tOp, tUn, tCB, tCons, tNil, tVar, tC, rI0, rI, rU, rEq, rNe, tRet, tRetN, tAsg, gName, gSub, tBM, tBM0, tNext, tB, tNot, tAnd, tOr, tIf, tCall, tDrop, tBreak, tCont, L2.start, tDGet, sDPut, tTup, tLst, tDNewK, tRevL, rCat, rAppend, rPop, rSetL, tAndV, tOrV, tNotV, tSl, tPart, tNoPart, tM1, gTup, gCons, gNil, cxK, cxnK, List.map_cons, List.map_nil, List.length_cons, List.length_nil, List.replicate, List.cons_append, List.nil_append, List.append_nil, List.set_cons_zero, List.set_cons_succ, List.getElem?_cons_zero, List.getElem?_cons_succ, Option.some.injEq, V.ref.injEq, V.int.injEq, V.str.injEq, V.bl.injEq, V.ty.injEq, exists_eq_left', exists_eq_left, exists_and_left, List.cons.injEq, and_true, true_and, sc_ii, sc_ss, sc_bb, sc_ni, sc_in, sc_is, sc_si, sc_nn, decide_true, decide_false, reduceCtorEq, Bool.false_eq_true, if_true, if_false, ite_true, ite_false, exists_const, eq_self, false_and, and_false, or_false, false_or, exists_false, Evl.rLenS, rSum, wipe, tYes, exists_eq, exists_eq', rIxL, rIxT, rIxS, exists_and_right, gt_iff_lt, not_true_eq_false, not_false_eq_true, Bool.not_true, Bool.not_false, decide_eq_true_eq, Nat.reduceSub, Nat.reduceAdd, List.append_assoc, tChain, tDIn, tDNotIn, sDDel, tAug, ipI, rInt1_int, rInt1_bl]
      refine lcRgFilt c (by omega) (bitI ((1 + j : Nat) : Int)) (by simp) (fun R h => ⟨_, rfl, h⟩) (fun i H' R hi k qR => ?_) (fun i H' R qR => ⟨_, rfl, qR⟩) fun D H' nD hD k => ?_
      · try simp (maxSteps := 1000000) only [tSeq, tIfS, tTest, tOp, tUn, tCB, tCons, tNil, tVar, tC, rI0, rI, rU, rEq, rNe, tRet, tRetN, tAsg, gName, gSub, tBM, tBM0, tNext, tB, tNot, tAnd, tOr, tIf, tCall, tDrop, tBreak, tCont, L2.start, tDGet, sDPut, tTup, tLst, tDNewK, tRevL, rCat, rAppend, rPop, rSetL, tAndV, tOrV, tNotV, tSl, tPart, tNoPart, tM1, gTup, gCons, gNil, cxK, cxnK, List.map_cons, List.map_nil, List.length_cons, List.length_nil, List.replicate, List.cons_append, List.nil_append, List.append_nil, List.set_cons_zero, List.set_cons_succ, List.getElem?_cons_zero, List.getElem?_cons_succ, Option.some.injEq, V.ref.injEq, V.int.injEq, V.str.injEq, V.bl.injEq, V.ty.injEq, exists_eq_left', exists_eq_left, exists_and_left, List.cons.injEq, and_true, true_and, sc_ii, sc_ss, sc_bb, sc_ni, sc_in, sc_is, sc_si, sc_nn, decide_true, decide_false, reduceCtorEq, Bool.false_eq_true, if_true, if_false, ite_true, ite_false, exists_const, eq_self, false_and, and_false, or_false, false_or, exists_false, Evl.rLenS, rSum, wipe, tYes, exists_eq, exists_eq', rIxL, rIxT, rIxS, exists_and_right, gt_iff_lt, not_true_eq_false, not_false_eq_true, Bool.not_true, Bool.not_false, decide_eq_true_eq, Nat.reduceSub, Nat.reduceAdd, List.append_assoc, tChain, tDIn, tDNotIn, sDDel, tAug, ipI, rInt1_int, rInt1_bl, tTest]
        refine ⟨by decide, fun t nt => ?_⟩
        have kt : Kp [] H' (upd H' t (.tup [.int 1, .int 2, .int 4])) := Kp.new nt
        have ix : ∃ d : Int, atI [V.int 1, V.int 2, V.int 4] ((i : Nat) : Int) = some (.int d) ∧ d = (if ((i : Nat) : Int) = 0 then 1 else if ((i : Nat) : Int) = 1 then 2 else 4) := by
          match i, (show i < 3 by omega) with
          | 0, _ => exact ⟨1, rfl, rfl⟩
          | 1, _ => exact ⟨2, rfl, rfl⟩
          | 2, _ => exact ⟨4, rfl, rfl⟩
          | i + 3, h => exact absurd h (by omega)
        obtain ⟨d', e1, e2⟩ := ix
        refine ⟨_, sq_t upd_same, .int d', e1, ?_⟩
        have dd : CDiv ((1 + j : Nat) : Int) d' := by
          rw [e2]
          split
          · exact ⟨by decide, by decide⟩
          · split <;> exact ⟨by decide, by decide⟩
        refine ⟨d', rfl, dd, by decide, ?_⟩
        rw [e2]
        exact qR _ kt
      · have e : (((List.range c).map fun i => ((i : Nat) : Int)).filter (bitI ((1 + j : Nat) : Int))) = ableI ((1 + j : Nat) : Int) c := by
          unfold ableI rgI
          rw [Int.toNat_natCast]
        rw [e] at hD
        refine ⟨D, rfl, _, .inl ⟨sq_l hD, fun t nt => ?_⟩⟩
        have kt := (Kp.new nt : Kp [] H' (upd H' t (.tup ((ableI ((1 + j : Nat) : Int) c).map V.int))))
        have ht : (upd H' t (.tup ((ableI ((1 + j : Nat) : Int) c).map V.int))) t = some (.tup ((ableI ((1 + j : Nat) : Int) c).map V.int)) := upd_same
        have k2 := k.trans kt
        generalize upd H' t (.tup ((ableI ((1 + j : Nat) : Int) c).map V.int)) = H2 at kt ht k2 ⊢
        have hus2 := hus.mono fun _ _ z => z.tp k2.tps
        have hp2 := k2 _ _ not0 hp1
        have able3 : (ableI ((1 + j : Nat) : Int) c).length ≤ 3 := by
          have := List.length_filter_le (bitI ((1 + j : Nat) : Int)) (rgI c)
          unfold ableI
          have h2 : (rgI (c : Nat)).length = c := by
            unfold rgI
            rw [List.length_map, List.length_range, Int.toNat_natCast]
          omega
        have plj := pl j (by omega)
        have eF : (List.range (j + 1)).flatMap (psF c) = (List.range j).flatMap (psF c) ++ (ableI ((1 + j : Nat) : Int) c).map fun k => (ableI ((1 + j : Nat) : Int) c, k) := by
          rw [List.range_succ, List.flatMap_append]
          simp only [List.flatMap_cons, List.flatMap_nil, List.append_nil]
          rfl
        rw [eF]
        generalize ableI ((1 + j : Nat) : Int) c = able at ht able3
        generalize (List.range j).flatMap (psF c) = F0 at hus2 plj
        refine forT (xs := able.map V.int) (a := t) (fun i σ H' => ∃ (ws : List V) (c5 : Option V), σ = [some (.int (c : Nat)), some (.ref p), some (.int ((1 + j : Nat) : Int)), some (.ref t), none, c5] ∧ H' p = some (.lst ws) ∧ Rw (PrAt H') ws (F0 ++ (able.take i).map fun k => (able, k)) ∧ Kp [] H H' ∧ Tp H2 H') rfl (sq_t ht) ⟨us, _, rfl, hp2, by simpa using hus2, k1.trans k2, Tp.refl _⟩ (fun i σ H' _ h => by obtain ⟨_, _, _, _, _, _, h⟩ := h; exact sq_t (h _ _ ht)) ?_ ?_
        · rintro i v σ H3 hv ⟨ws, c5', rfl, hp3, hws, k3, tp3⟩
          obtain ⟨k, ek, rfl⟩ := map_get hv
          try simp (maxSteps := 1000000) only [tSeq, tIfS, tTest, tOp, tUn, tCB, tCons, tNil, tVar, tC, rI0, rI, rU, rEq, rNe, tRet, tRetN, tAsg, gName, gSub, tBM, tBM0, tNext, tB, tNot, tAnd, tOr, tIf, tCall, tDrop, tBreak, tCont, L2.start, tDGet, sDPut, tTup, tLst, tDNewK, tRevL, rCat, rAppend, rPop, rSetL, tAndV, tOrV, tNotV, tSl, tPart, tNoPart, tM1, gTup, gCons, gNil, cxK, cxnK, List.map_cons, List.map_nil, List.length_cons, List.length_nil, List.replicate, List.cons_append, List.nil_append, List.append_nil, List.set_cons_zero, List.set_cons_succ, List.getElem?_cons_zero, List.getElem?_cons_succ, Option.some.injEq, V.ref.injEq, V.int.injEq, V.str.injEq, V.bl.injEq, V.ty.injEq, exists_eq_left', exists_eq_left, exists_and_left, List.cons.injEq, and_true, true_and, sc_ii, sc_ss, sc_bb, sc_ni, sc_in, sc_is, sc_si, sc_nn, decide_true, decide_false, reduceCtorEq, Bool.false_eq_true, if_true, if_false, ite_true, ite_false, exists_const, eq_self, false_and, and_false, or_false, false_or, exists_false, Evl.rLenS, rSum, wipe, tYes, exists_eq, exists_eq', rIxL, rIxT, rIxS, exists_and_right, gt_iff_lt, not_true_eq_false, not_false_eq_true, Bool.not_true, Bool.not_false, decide_eq_true_eq, Nat.reduceSub, Nat.reduceAdd, List.append_assoc, tChain, tDIn, tDNotIn, sDDel, tAug, ipI, rInt1_int, rInt1_bl]
          have wl : ws.length ≤ 20 := by
            rw [hws.len, List.length_append, List.length_map, List.length_take]
            omega
          refine ⟨.inl ⟨rfl, _, sq_l hp3⟩, small (by decide), fun x nx => ?_⟩
          have kx := (Kp.new nx : Kp [] H3 (upd H3 x (.tup [.ref t, .int k])))
          have hx : (upd H3 x (.tup [.ref t, .int k])) x = some (.tup [.ref t, .int k]) := upd_same
          generalize upd H3 x (.tup [.ref t, .int k]) = H4 at kx hx ⊢
          have hp4 := kx _ _ not0 hp3
          have tp : Tp H4 (upd H4 p (.lst (ws ++ [.ref x]))) := (Tp.refl _).putL hp4
          refine ⟨ws, hp4, smallL (by omega), ws ++ [.ref x], upd_same, ?_, (k3.trans kx).wr np, (tp3.trans kx.tps).trans tp⟩
          rw [take_snoc ek, List.map_append, ← List.append_assoc]
          exact (hws.mono fun _ _ z => z.tp (kx.tps.trans tp)).snoc ⟨x, .ref t, rfl, tp _ _ hx, t, rfl, (tp3.trans (kx.tps.trans tp)) _ _ ht⟩
        · rintro σ H3 ⟨ws, c5', rfl, hp3, hws, k3, tp3⟩
          rw [List.length_map, List.take_length] at hws
          exact ⟨⟨_, _, _, rfl⟩, ws, hp3, hws, k3⟩
    · rintro σ H1 ⟨us, c2, c3', c5, rfl, hp1, hus, k1⟩
      try simp (maxSteps := 1000000) only [tSeq, tIfS, tTest, tOp, tUn, tCB, tCons, tNil, tVar, tC, rI0, rI, rU, rEq, rNe, tRet, tRetN, tAsg, gName, gSub, tBM, tBM0, tNext, tB, tNot, tAnd, tOr, tIf, tCall, tDrop, tBreak, tCont, L2.start, tDGet, sDPut, tTup, tLst, tDNewK, tRevL, rCat, rAppend, rPop, rSetL, tAndV, tOrV, tNotV, tSl, tPart, tNoPart, tM1, gTup, gCons, gNil, cxK, cxnK, List.map_cons, List.map_nil, List.length_cons, List.length_nil, List.replicate, List.cons_append, List.nil_append, List.append_nil, List.set_cons_zero, List.set_cons_succ, List.getElem?_cons_zero, List.getElem?_cons_succ, Option.some.injEq, V.ref.injEq, V.int.injEq, V.str.injEq, V.bl.injEq, V.ty.injEq, exists_eq_left', exists_eq_left, exists_and_left, List.cons.injEq, and_true, true_and, sc_ii, sc_ss, sc_bb, sc_ni, sc_in, sc_is, sc_si, sc_nn, decide_true, decide_false, reduceCtorEq, Bool.false_eq_true, if_true, if_false, ite_true, ite_false, exists_const, eq_self, false_and, and_false, or_false, false_or, exists_false, Evl.rLenS, rSum, wipe, tYes, exists_eq, exists_eq', rIxL, rIxT, rIxS, exists_and_right, gt_iff_lt, not_true_eq_false, not_false_eq_true, Bool.not_true, Bool.not_false, decide_eq_true_eq, Nat.reduceSub, Nat.reduceAdd, List.append_assoc, tChain, tDIn, tDNotIn, sDDel, tAug, ipI, rInt1_int, rInt1_bl]
      rw [ed2, show (List.range (2 ^ c - 1)).flatMap (psF c) = psU c from rfl] at hus
      obtain ⟨p1, p2, p3⟩ := psU_ok c c1 c3
      have al : ∀ x ∈ us, ∃ g, PrAt H1 x g := fun x hx => by
        obtain ⟨i, ei⟩ := List.getElem?_of_mem hx
        obtain ⟨g, eg, hg⟩ := hus.get ei
        exact ⟨g, hg⟩
      refine ⟨p, us, fun v => prD (prG H1 v), rfl, sq_l hp1, fun x hx => ?_, ⟨fun x hx y hy => prD_alike _ _, .inl fun x hx => ⟨_, _, rfl⟩⟩, fun ys z hs pm nz => ?_⟩
      · obtain ⟨g, hg⟩ := al x hx
        dsimp only
        rw [prG_of hg]
        refine ⟨hg.dp, by have := prD_dep g; omega, ?_⟩
        obtain ⟨a, _, rfl, _⟩ := hg
        exact ⟨a, rfl⟩
      · have hys := srt_rw (R := PrAt H1) (d := prG H1) (fun _ _ h => prG_of h) (lt := prLt) hus pm hs p1 p2 p3
        have kz := (Kp.new nz : Kp [] H1 (upd H1 z (.lst ys)))
        exact q z ys _ (k1.free0 nz) upd_same (hys.mono fun _ _ h => h.tp kz.tps) (k1.trans kz)
end
end My

set_option Elab.async false
set_option linter.all false
set_option maxRecDepth 100000
set_option maxHeartbeats 4000000
namespace My
open PySem L2 NdefX StX
theorem forL_src {K : PySem.W.Frag} {te : TE} {g : TG} {tb : TS} {D : Ends} {σ : L2.St} {H : Hp} (h : te σ H fun v H1 => tFor (iList K (tC v)) g tb D σ H1) : tFor (iList K te) g tb D σ H := h
theorem forLC {K : PySem.W.Frag} {g : TG} {tb : TS} {D : Ends} {σ : L2.St} {H : Hp} {a : Addr} {xs : List V} (Pv : Nat → L2.St → Hp → Prop) (hS : SqL K H a xs) (h0 : Pv 0 σ H) (hl : ∀ j σ H, j ≤ xs.length → Pv j σ H → SqL K H a xs)
    (hs : ∀ j x σ H, xs[j]? = some x → Pv j σ H → g x σ H fun σ2 H2 => tb { D with nx := Pv (j + 1), ct := Pv (j + 1), bk := D.nx } σ2 H2) (hd : ∀ σ H, Pv xs.length σ H → D.nx σ H) : tFor (iList K (tC (.ref a))) g tb D σ H :=
  ⟨a, rfl, ⟨xs, hS⟩, for_list Pv h0 hl hs hd⟩
/-! ### the moves of each pair of states, as the law tells them -/
def OpAt (H : Hp) (v : V) : Option S2 → Prop
  | none => v = .non
  | some t => ∃ g, v = .ref g ∧ H g = some (.tup [.int t.1, .int t.2])
def MvAt (H : Hp) (v : V) (m : Pr × Option S2) : Prop := ∃ x pv tv, v = .ref x ∧ H x = some (.tup [pv, tv]) ∧ PrAt H pv m.1 ∧ OpAt H tv m.2
theorem OpAt.tp {H H' : Hp} {v : V} {t : Option S2} (h : OpAt H v t) (k : Tp H H') : OpAt H' v t := by
  cases t with
  | none => exact h
  | some t => obtain ⟨g, e, h⟩ := h; exact ⟨g, e, k _ _ h⟩
theorem MvAt.tp {H H' : Hp} {v : V} {m : Pr × Option S2} (h : MvAt H v m) (k : Tp H H') : MvAt H' v m := by
  obtain ⟨x, pv, tv, e, h1, h2, h3⟩ := h
  exact ⟨x, pv, tv, e, k _ _ h1, h2.tp k, h3.tp k⟩
def fullM (c : Nat) (a b : List Cst) (s : S2) : List (Pr × Option S2) := (mvC c a s).map fun z => (z, stC a b s z)
def partM (c : Nat) (a b : List Cst) (k j i : Nat) (s : S2) : List (Pr × Option S2) := if i < k then fullM c a b s else if i = k then (fullM c a b s).take j else []
/-- the queue and the dict of lists that grow -/
def MvI (P : Program) (w : World) (c : Nat) (a b : List Cst) (H : Hp) (md ql : Addr) (S : List Addr) (G : List S2) (k j : Nat) (H' : Hp) : Prop :=
  (∃ us, H' ql = some (.lst us) ∧ Rw (TI H') us (G.map fun s => [s.1, s.2])) ∧ G.Nodup ∧ (∀ s ∈ G, InR a b s) ∧
  (∃ ents : List (S2 × Addr), ents.map (·.1) = G ∧ DnAt P w H' md (ents.map fun e => (keyI e.1, V.ref e.2)) ∧ (ents.map (·.2)).Nodup ∧ ∀ (i : Nat) (e : S2 × Addr), ents[i]? = some e → (e.2 ≠ ql ∧ e.2 ∉ S) ∧ H e.2 = none ∧ ∃ us, H' e.2 = some (.lst us) ∧ Rw (MvAt H') us (partM c a b k j i e.1)) ∧ Kp [] H H'
section
variable {P : Program} {w : World} {c : Nat} {a b : List Cst} {H H1 : Hp} {md ql : Addr} {S : List Addr} {G : List S2} {k j : Nat}
theorem MvI.kp {H2 : Hp} (h : MvI P w c a b H md ql S G k j H1) (kk : Kp [] H1 H2) : MvI P w c a b H md ql S G k j H2 := by
  obtain ⟨⟨us, h1, h2⟩, h3, h4, ⟨ents, h5, h6, h7, h8⟩, h9⟩ := h
  refine ⟨⟨us, kk _ _ not0 h1, h2.mono fun _ _ z => z.kp kk⟩, h3, h4, ⟨ents, h5, dn_kp h6 kk, h7, fun i e ei => ?_⟩, h9.trans kk⟩
  obtain ⟨p1, p2, vs, p3, p4⟩ := h8 i e ei
  exact ⟨p1, p2, vs, kk _ _ not0 p3, p4.mono fun _ _ z => z.tp kk.tps⟩
theorem MvI.apart {D : Addr} (h : MvI P w c a b H md ql S G k j H1) (hd : H1 D = none) : MvI P w c a b H md ql (D :: S) G k j H1 := by
  obtain ⟨h1, h3, h4, ⟨ents, h5, h6, h7, h8⟩, h9⟩ := h
  refine ⟨h1, h3, h4, ⟨ents, h5, h6, h7, fun i e ei => ?_⟩, h9⟩
  obtain ⟨p1, p2, vs, p3, p4⟩ := h8 i e ei
  refine ⟨⟨p1.1, fun hm => ?_⟩, p2, vs, p3, p4⟩
  rcases List.mem_cons.mp hm with e' | hm
  · exact ne_of_none p3 hd e'
  · exact p1.2 hm
theorem MvI.less {S' : List Addr} (h : MvI P w c a b H md ql S G k j H1) (hs : ∀ x ∈ S', x ∈ S) : MvI P w c a b H md ql S' G k j H1 := by
  obtain ⟨h1, h3, h4, ⟨ents, h5, h6, h7, h8⟩, h9⟩ := h
  refine ⟨h1, h3, h4, ⟨ents, h5, h6, h7, fun i e ei => ?_⟩, h9⟩
  obtain ⟨p1, p2, vs, p3, p4⟩ := h8 i e ei
  exact ⟨⟨p1.1, fun hm => p1.2 (hs _ hm)⟩, p2, vs, p3, p4⟩
theorem full_len (h : 1 ≤ c) (h3 : c ≤ 3) (s : S2) : (fullM c a b s).length ≤ 12 := by
  unfold fullM mvC
  rw [List.length_map]
  have := List.length_filter_le (fun p : Pr => letG p.1 p.2 (stOf a s.1).1) (psC c)
  have := (ps_ok c h h3).2.2.2.1
  omega
theorem part_next {i : Nat} {s : S2} (h : (fullM c a b s).length ≤ j) (hi : i = k) : partM c a b k j i s = fullM c a b s := by
  unfold partM
  rw [if_neg (by omega), if_pos hi, List.take_of_length_le h]
/-- the k-th state is done -/
theorem MvI.next {s : S2} (h : MvI P w c a b H md ql S G k j H1) (es : G[k]? = some s) (hj : (fullM c a b s).length ≤ j) : MvI P w c a b H md ql S G (k + 1) 0 H1 := by
  obtain ⟨h1, h3, h4, ⟨ents, h5, h6, h7, h8⟩, h9⟩ := h
  refine ⟨h1, h3, h4, ⟨ents, h5, h6, h7, fun i e ei => ?_⟩, h9⟩
  obtain ⟨p1, p2, vs, p3, p4⟩ := h8 i e ei
  refine ⟨p1, p2, vs, p3, ?_⟩
  have eq : partM c a b (k + 1) 0 i e.1 = partM c a b k j i e.1 := by
    by_cases hk : i = k
    · subst hk
      have e1 : G[i]? = some e.1 := by rw [← h5, List.getElem?_map, ei]; rfl
      rw [es] at e1
      cases e1
      rw [part_next hj rfl]
      unfold partM
      rw [if_pos (by omega)]
    · unfold partM
      by_cases hl : i < k
      · rw [if_pos hl, if_pos (by omega)]
      · rw [if_neg hl, if_neg hk, if_neg (by omega)]
        split
        · rw [List.take_zero]
        · rfl
  rw [eq]
  exact p4
/-- a new state: an empty list under its key, the pair behind the others -/
theorem MvI.add {t : S2} {g l : Addr} {vs : List V} {ob : HO} {ents : List (S2 × Addr)} (h : MvI P w c a b H md ql S G k j H1) (nql : H ql = none) (nmd : H md = none) (kl : k < G.length) (hg : H1 g = some (.tup [.int t.1, .int t.2])) (hl : H1 l = some (.lst [])) (nl : H l = none) (ne : l ≠ ql ∧ l ∉ S) (it : InR a b t) (nt : t ∉ G)
    (h5 : ents.map (·.1) = G) (h6 : DnAt P w H1 md (ents.map fun e => (keyI e.1, V.ref e.2))) (h7 : (ents.map (·.2)).Nodup) (h8 : ∀ (i : Nat) (e : S2 × Addr), ents[i]? = some e → (e.2 ≠ ql ∧ e.2 ∉ S) ∧ H e.2 = none ∧ ∃ us, H1 e.2 = some (.lst us) ∧ Rw (MvAt H1) us (partM c a b k j i e.1)) (h7' : ∀ e ∈ ents, e.2 ≠ l)
    (hob : DnAt P w (upd H1 md ob) md (putN (ents.map fun e => (keyI e.1, V.ref e.2)) (keyI t) (.ref l))) (hf : H1 ql = some (.lst vs)) :
    (upd H1 md ob) ql = some (.lst vs) ∧ MvI P w c a b H md ql S (G ++ [t]) k j (upd (upd H1 md ob) ql (.lst (vs ++ [.ref g]))) ∧ ∀ e : S2 × Addr, e ∈ ents ++ [(t, l)] → True := by
  obtain ⟨⟨us', f1, f2⟩, h3, h4, _, kk⟩ := h
  rw [hf] at f1
  cases f1
  have nfr : ql ≠ md := dn_nl h6 hf
  have tp1 : Tp H1 (upd H1 md ob) := fun x xs e => by rw [upd_ne (dn_nt h6 e)]; exact e
  have hf1 : (upd H1 md ob) ql = some (.lst vs) := by rw [upd_ne nfr]; exact hf
  have tp := tp1.trans ((Tp.refl _).putL hf1 : Tp (upd H1 md ob) (upd (upd H1 md ob) ql (.lst (vs ++ [.ref g]))))
  have hp : putN (ents.map fun e => (keyI e.1, V.ref e.2)) (keyI t) (.ref l) = (ents ++ [(t, l)]).map fun e => (keyI e.1, V.ref e.2) := by
    unfold putN
    have : valN (ents.map fun e => (keyI e.1, V.ref e.2)) (keyI t) = none := valN_notK (by
      intro hm
      rw [List.map_map] at hm
      obtain ⟨e, he, ee⟩ := List.mem_map.mp hm
      exact nt (by rw [← h5, ← keyI_inj ee]; exact List.mem_map_of_mem he))
    rw [this, List.map_append]
    rfl
  rw [hp] at hob
  have old : ∀ {x : Addr} {ws : List V}, H1 x = some (.lst ws) → x ≠ ql → (upd (upd H1 md ob) ql (.lst (vs ++ [.ref g]))) x = some (.lst ws) := fun {x ws} e n => by
    rw [upd_ne n, upd_ne (dn_nl h6 e)]
    exact e
  have el : ents.length = G.length := by
    have := congrArg List.length h5
    simpa using this
  refine ⟨hf1, ⟨⟨_, upd_same, ?_⟩, ?_, fun s hs => ?_, ⟨ents ++ [(t, l)], by rw [List.map_append, h5]; rfl, dn_wr hob hf1 nfr.symm, ?_, fun i e ei => ?_⟩, (kk.wr nmd).wr nql⟩, fun _ _ => trivial⟩
  · rw [List.map_append]
    exact (f2.mono fun _ _ z => z.tp tp).snoc ⟨g, rfl, tp _ _ hg⟩
  · exact List.nodup_append.mpr ⟨h3, by simp, fun x hx y hy e => by
      rw [List.mem_singleton.mp hy] at e
      subst e
      exact nt hx⟩
  · rcases List.mem_append.mp hs with hs | hs
    · exact h4 s hs
    · rw [List.mem_singleton.mp hs]; exact it
  · rw [List.map_append]
    exact List.nodup_append.mpr ⟨h7, by simp, fun x hx y hy e => by
      rw [List.mem_singleton.mp hy] at e
      subst e
      obtain ⟨e', he', ee⟩ := List.mem_map.mp hx
      exact h7' e' he' ee⟩
  · rcases Nat.lt_trichotomy i ents.length with x | x | x
    · rw [List.getElem?_append_left x] at ei
      obtain ⟨p1, p2, ws, p3, p4⟩ := h8 i e ei
      exact ⟨p1, p2, ws, old p3 p1.1, p4.mono fun _ _ z => z.tp tp⟩
    · subst x
      rw [List.getElem?_append_right (Nat.le_refl _), Nat.sub_self] at ei
      cases ei
      refine ⟨ne, nl, [], old hl ne.1, ?_⟩
      unfold partM
      rw [if_neg (by omega), if_neg (by omega)]
      exact .nil
    · rw [List.getElem?_append_right (by omega), List.getElem?_eq_none (by simp; omega)] at ei
      cases ei
/-- a move more of the k-th state -/
theorem MvI.app {s : S2} {l x : Addr} {us : List V} {m : Pr × Option S2} {ents : List (S2 × Addr)} (h : MvI P w c a b H md ql S G k j H1) (h5 : ents.map (·.1) = G) (h6 : DnAt P w H1 md (ents.map fun e => (keyI e.1, V.ref e.2))) (h7 : (ents.map (·.2)).Nodup) (h8 : ∀ (i : Nat) (e : S2 × Addr), ents[i]? = some e → (e.2 ≠ ql ∧ e.2 ∉ S) ∧ H e.2 = none ∧ ∃ us, H1 e.2 = some (.lst us) ∧ Rw (MvAt H1) us (partM c a b k j i e.1))
    (ek : ents[k]? = some (s, l)) (hl : H1 l = some (.lst us)) (hx : MvAt H1 (.ref x) m) (em : (fullM c a b s)[j]? = some m) : MvI P w c a b H md ql S G k (j + 1) (upd H1 l (.lst (us ++ [.ref x]))) := by
  obtain ⟨⟨us', f1, f2⟩, h3, h4, _, kk⟩ := h
  obtain ⟨q1, q2, us2, q3, q4⟩ := h8 k _ ek
  dsimp only at q1 q2 q3 q4
  rw [hl] at q3
  cases q3
  have tp : Tp H1 (upd H1 l (.lst (us ++ [.ref x]))) := (Tp.refl _).putL hl
  refine ⟨⟨us', by rw [upd_ne q1.1.symm]; exact f1, f2.mono fun _ _ z => z.tp tp⟩, h3, h4, ⟨ents, h5, dn_wr h6 hl (dn_nl h6 hl).symm, h7, fun i e ei => ?_⟩, kk.wr q2⟩
  obtain ⟨p1, p2, ws, p3, p4⟩ := h8 i e ei
  by_cases hi : i = k
  · subst hi
    rw [ek] at ei
    cases ei
    refine ⟨q1, q2, _, upd_same, ?_⟩
    unfold partM at q4 ⊢
    rw [if_neg (by omega), if_pos rfl] at q4 ⊢
    rw [take_snoc em]
    exact (q4.mono fun _ _ z => z.tp tp).snoc (hx.tp tp)
  · have nel : e.2 ≠ l := fun z => by
      have hp := (List.pairwise_iff_getElem.mp (List.nodup_iff_pairwise_ne.mp h7))
      have i1 := (List.getElem?_eq_some_iff.mp ei).1
      have i2 := (List.getElem?_eq_some_iff.mp ek).1
      have e1 : (ents.map (·.2))[i]'(by simpa using i1) = e.2 := by
        rw [List.getElem_map, (List.getElem?_eq_some_iff.mp ei).2]
      have e2 : (ents.map (·.2))[k]'(by simpa using i2) = l := by
        rw [List.getElem_map, (List.getElem?_eq_some_iff.mp ek).2]
      rcases Nat.lt_trichotomy i k with c1 | c1 | c1
      · exact hp i k (by simpa using i1) (by simpa using i2) c1 (by rw [e1, e2, z])
      · exact hi c1
      · exact hp k i (by simpa using i2) (by simpa using i1) c1 (by rw [e1, e2, z])
    refine ⟨p1, p2, ws, by rw [upd_ne nel]; exact p3, ?_⟩
    have eq : partM c a b k (j + 1) i e.1 = partM c a b k j i e.1 := by
      unfold partM
      by_cases hl : i < k
      · rw [if_pos hl, if_pos hl]
      · rw [if_neg hl, if_neg hi, if_neg hl, if_neg hi]
    rw [eq]
    exact p4.mono fun _ _ z => z.tp tp
end
end My

set_option Elab.async false
set_option linter.all false
set_option maxRecDepth 100000
set_option maxHeartbeats 4000000
namespace My
open PySem L2 NdefX StX
abbrev s_law_moves : Stmt := top 27
theorem sc_law_moves : FnScope ["_law_a", "_law_b", "_law_pairs_here", "_law_moves_here", "_law_queue", "_law_k", "_law_x", "_law_y", "_law_pair", "_law_one", "_law_there"] ["_law_a", "_law_b", "_law_pairs_here"] (defScope s_law_moves) := ⟨rfl, rfl, rfl, by decide +kernel, rfl, by decide +kernel, by decide +kernel⟩
/-- what _law_moves gives: the states that rows lead to (or more of them), closed; each one's moves -/
def MvD (P : Program) (w : World) (c : Nat) (a b : List Cst) (H : Hp) (md : Addr) (G : List S2) : Prop := G.Nodup ∧ (0, 0) ∈ G ∧ (∀ s ∈ G, InR a b s) ∧ (∀ s ∈ G, ∀ z ∈ mvC c a s, ∀ t, stC a b s z = some t → t ∈ G) ∧
  ∃ ents : List (S2 × Addr), ents.map (·.1) = G ∧ DnAt P w H md (ents.map fun e => (keyI e.1, V.ref e.2)) ∧ ∀ e ∈ ents, ∃ us, H e.2 = some (.lst us) ∧ Rw (MvAt H) us (fullM c a b e.1)
theorem MvD.kp {P : Program} {w : World} {c : Nat} {a b : List Cst} {H H' : Hp} {md : Addr} {G : List S2} (h : MvD P w c a b H md G) (k : Kp [] H H') : MvD P w c a b H' md G := by
  obtain ⟨h1, h2, h3, h4, ents, h5, h6, h7⟩ := h
  refine ⟨h1, h2, h3, h4, ents, h5, dn_kp h6 k, fun e he => ?_⟩
  obtain ⟨us, a, b⟩ := h7 e he
  exact ⟨us, k _ _ not0 a, b.mono fun _ _ z => z.tp k.tps⟩
def CloM (c : Nat) (a b : List Cst) (G : List S2) (k j : Nat) : Prop := (0, 0) ∈ G ∧ ∀ (i : Nat) (s : S2), G[i]? = some s → ∀ (q : Nat) (z : Pr), (mvC c a s)[q]? = some z → (i < k ∨ (i = k ∧ q < j)) → ∀ t, stC a b s z = some t → t ∈ G
def WMo (P : Program) (w : World) (c : Nat) (a b : List Cst) (la lb lp md ql : Addr) (H Hw : Hp) (m : Nat) (σ : L2.St) (H' : Hp) : Prop := ∃ (k : Nat) (G : List S2) (c6 c7 c8 c9 c10 : Option V), σ = [some (.ref la), some (.ref lb), some (.ref lp), some (.ref md), some (.ref ql), some (.int (k : Nat)), c6, c7, c8, c9, c10] ∧ MvI P w c a b H md ql [] G k 0 H' ∧ CloM c a b G k 0 ∧ k ≤ G.length ∧ m = 145 - k
def WMj (P : Program) (w : World) (c : Nat) (a b : List Cst) (la lb lp md ql : Addr) (k : Nat) (x y : Int) (H H5 : Hp) (D : Addr) (us : List V) (j : Nat) (σ : L2.St) (H' : Hp) : Prop := ∃ (G : List S2) (c8 c9 c10 : Option V), σ = [some (.ref la), some (.ref lb), some (.ref lp), some (.ref md), some (.ref ql), some (.int (k : Nat)), some (.int x), some (.int y), c8, c9, c10] ∧ MvI P w c a b H md ql [D] G k j H' ∧ CloM c a b G k j ∧ G[k]? = some (x, y) ∧ H' D = some (.lst us) ∧ Tp H5 H'
def WMm (P : Program) (w : World) (c : Nat) (a b : List Cst) (la lb lp md ql : Addr) (k : Nat) (x y : Int) (pa : Addr) (z : Pr) (H H5 : Hp) (D : Addr) (us : List V) (j : Nat) (σ : L2.St) (H' : Hp) : Prop := ∃ (G : List S2) (c9 : Option V) (tv : V), σ = [some (.ref la), some (.ref lb), some (.ref lp), some (.ref md), some (.ref ql), some (.int (k : Nat)), some (.int x), some (.int y), some (.ref pa), c9, some tv] ∧ MvI P w c a b H md ql [D] G k j H' ∧ CloM c a b G k (j + 1) ∧ G[k]? = some (x, y) ∧ H' D = some (.lst us) ∧ Tp H5 H' ∧ OpAt H' tv (stC a b (x, y) z)
theorem ifs_both {c : TT} {t u : TS} {D : Ends} {σ : L2.St} {H : Hp} (Pv : L2.St → Hp → Prop) (h : ∀ Dn : Ends, (∀ σ' H', Pv σ' H' → Dn.nx σ' H') → tIfS c t u Dn σ H) (h2 : ∀ σ' H', Pv σ' H' → D.nx σ' H') : tIfS c t u D σ H := h D h2
theorem CloM.more {c : Nat} {a b : List Cst} {G : List S2} {k j : Nat} {s : S2} {z : Pr} (h : CloM c a b G k j) (es : G[k]? = some s) (ez : (mvC c a s)[j]? = some z) (ht : ∀ t, stC a b s z = some t → t ∈ G) : CloM c a b G k (j + 1) := by
  refine ⟨h.1, fun i s' ei q z' eq hl t et => ?_⟩
  by_cases hq : i = k ∧ q = j
  · obtain ⟨rfl, rfl⟩ := hq
    rw [es] at ei
    cases ei
    rw [ez] at eq
    cases eq
    exact ht t et
  · exact h.2 i s' ei q z' eq (by omega) t et
theorem CloM.grow {c : Nat} {a b : List Cst} {G : List S2} {k j : Nat} {t : S2} (h : CloM c a b G k j) (kl : k < G.length) : CloM c a b (G ++ [t]) k j := by
  refine ⟨List.mem_append_left _ h.1, fun i s' ei q z' eq hl t et => ?_⟩
  rw [List.getElem?_append_left (by omega)] at ei
  exact List.mem_append_left _ (h.2 i s' ei q z' eq hl t et)
section
variable {P : Program} {w : World} {K : PySem.W.Frag} {mg : Str → Option Value} {base : Heap} {t1 t2 : Tok}
def spMoves (P : Program) (w : World) : Sp := fun vs H Q _ => ∃ (la lb lp : Addr) (c : Nat) (a b : List Cst) (ua ub up : List V), vs = [.ref la, .ref lb, .ref lp] ∧ H la = some (.lst ua) ∧ Rw (TSt H) ua a ∧ H lb = some (.lst ub) ∧ Rw (TSt H) ub b ∧ H lp = some (.lst up) ∧ Rw (PrAt H) up (psC c) ∧ GoodC (c : Nat) a ∧ GoodC (c : Nat) b ∧
  ∀ md G H', MvD P w c a b H' md G → Kp [] H H' → Q (.ref md) H'
theorem ok_law_moves {f : Addr} {fd : FuncData} (D : Df K mg "_law_moves" s_law_moves ["_law_a", "_law_b", "_law_pairs_here"] f fd) (T : BtW mg) {fl : Addr} {fdl : FuncData} (D_law_lets : Df K mg "_law_lets" s_law_lets ["_law_groups", "_law_pair"] fl fdl) (G_law_lets : FnOk P w K mg base CX0 1 fl fdl ["_law_groups", "_law_pair"] spLetG) : FnOk P w K mg base CX0 2 f fd ["_law_a", "_law_b", "_law_pairs_here"] (spMoves P w) := by
  refine D.F.ok sc_law_moves (fun vs H Q E h => ?_) (fun cdv A outer s H vs Q E hr h => ?_)
  · obtain ⟨_, _, _, _, _, _, _, _, _, rfl, _⟩ := h
    rfl
  · obtain ⟨la, lb, lp, c, a, b, ua, ub, up, rfl, hla, hua, hlb, hub, hlp, hup, gA, gB, q⟩ := h
    have hu := hu_of hr
    have c1 : 1 ≤ c := by have := gA.1; omega
    have c3 : c ≤ 3 := by have := gA.2.1; omega
    obtain ⟨po1, po2, po3, po4, po5⟩ := ps_ok c c1 c3
    have aLen := gA.2.2.2.1
    have bLen := gB.2.2.2.1
    refine ⟨_, (pss_cons (ps_set (i := 3) sc_law_moves.nd rfl (Or.inl rfl) (pe_dispN hr.units (pe_tup (pa_cons pe_int (pa_cons pe_int pa_nil))) (pe_lst pa_nil)))
      (pss_cons (ps_set (i := 4) sc_law_moves.nd rfl (Or.inl rfl) (pe_lst (pa_cons (pe_tup (pa_cons pe_int (pa_cons pe_int pa_nil))) pa_nil)))
      (pss_cons (ps_set (i := 5) sc_law_moves.nd rfl (Or.inl rfl) pe_int)
      (pss_cons (ps_while PassesOwn.never (pt_cmpR op_lt (pv 5) (pe_callB (id := "len") (r := Evl.rLenS K) call_len_seq (by rfl) T.b_len PySem.boot_len (pa_cons (pv 4) pa_nil)) (nomark _)) (pss_cons (ps_asg (pe_ix (r := rIxL K) ix_list (pv 4) (pv 5) (fun _ _ => rfl)) (pg_tup (n := 2) (by rfl) (pgs_cons (pg_name (i := 6) sc_law_moves.nd rfl (Or.inr rfl)) (pgs_cons (pg_name (i := 7) sc_law_moves.nd rfl (Or.inl rfl)) pgs_nil))))
      (pss_cons (ps_for PassesOwn.never rfl (pi_list (pe_lc (own := [("_law_one", 9)]) (g := (gName 9)) rfl sc_law_moves.nd (pi_list (pv 2)) (blkOk_by (N := ["_law_a", "_law_b", "_law_pairs_here", "_law_moves_here", "_law_queue", "_law_k", "_law_x", "_law_y", "_law_pair", "_law_one", "_law_there"]) (sc := defScope s_law_moves) (by decide +kernel)) (fun _ _ _ _ _ => (pg_name (i := 9) sc_law_moves.nd rfl (Or.inl rfl))) (fun _ _ _ _ _ => (pts_one (pt_val (pe_call G_law_lets (hr.mono (by decide)) rfl D_law_lets.g D_law_lets.F.kp D_law_lets.b .nil pass0 (pa_cons (pe_ix (r := rIxT K) ix_tup (pe_ix (r := rIxL K) ix_list (pv 0) (pv 6) (fun _ _ => rfl)) pe_int (fun _ _ => rfl)) (pa_cons (pv 9) pa_nil)))))) (fun _ _ _ _ _ => (pv 9)))) (pg_name (i := 8) sc_law_moves.nd rfl (Or.inl rfl)) (pss_cons (ps_set (i := 10) sc_law_moves.nd rfl (Or.inl rfl) pe_non)
      (pss_cons (ps_if (pt_val (pe_call G_law_lets (hr.mono (by decide)) rfl D_law_lets.g D_law_lets.F.kp D_law_lets.b .nil pass0 (pa_cons (pe_ix (r := rIxT K) ix_tup (pe_ix (r := rIxL K) ix_list (pv 1) (pv 7) (fun _ _ => rfl)) pe_int (fun _ _ => rfl)) (pa_cons (pv 8) pa_nil)))) (pss_cons (ps_set (i := 10) sc_law_moves.nd rfl (Or.inl rfl) (pe_tup (pa_cons (pe_ix (r := rIxT K) ix_tup (pe_ix (r := rIxT K) ix_tup (pe_ix (r := rIxL K) ix_list (pv 0) (pv 6) (fun _ _ => rfl)) pe_int (fun _ _ => rfl)) (pe_ix (r := rIxT K) ix_tup (pv 8) pe_int (fun _ _ => rfl)) (fun _ _ => rfl)) (pa_cons (pe_ix (r := rIxT K) ix_tup (pe_ix (r := rIxT K) ix_tup (pe_ix (r := rIxL K) ix_list (pv 1) (pv 7) (fun _ _ => rfl)) pe_int (fun _ _ => rfl)) (pe_ix (r := rIxT K) ix_tup (pv 8) pe_int (fun _ _ => rfl)) (fun _ _ => rfl)) pa_nil))))
      (pss_one (ps_if (pt_cmp (pc_nnotin hr.units (pv 10) (pv 3))) (pss_cons (ps_nput hr.units (pv 3) (pv 10) (pe_lst pa_nil) rfl)
      (pss_one (ps_expr (pe_bm PySem.F.plainAttrs_list PySem.F.slot_list_append PySem.F.type_list_append mt_append (pv 4) (pa_cons (pv 10) pa_nil))))) pss_nil))) pss_nil)
      (pss_one (ps_expr (pe_bm PySem.F.plainAttrs_list PySem.F.slot_list_append PySem.F.type_list_append mt_append (pe_nget hr.units (pv 3) (pe_tup (pa_cons (pv 6) (pa_cons (pv 7) pa_nil))) (fun _ _ => rfl)) (pa_cons (pe_tup (pa_cons (pv 8) (pa_cons (pv 10) pa_nil))) pa_nil)))))))
      (pss_one (ps_set (i := 5) sc_law_moves.nd rfl (Or.inl rfl) (pe_op op_add (pv 5) pe_int))))))
      (pss_one (ps_ret (pv 3))))))), ?_⟩
    try simp (maxSteps := 1000000) only [tSeq, tIfS, tTest, tOp, tUn, tCB, tCons, tNil, tVar, tC, rI0, rI, rU, rEq, rNe, tRet, tRetN, tAsg, gName, gSub, tBM, tBM0, tNext, tB, tNot, tAnd, tOr, tIf, tCall, tDrop, tBreak, tCont, L2.start, tDGet, sDPut, tTup, tLst, tDNewK, tRevL, rCat, rAppend, rPop, rSetL, tAndV, tOrV, tNotV, tSl, tPart, tNoPart, tM1, gTup, gCons, gNil, cxK, cxnK, List.map_cons, List.map_nil, List.length_cons, List.length_nil, List.replicate, List.cons_append, List.nil_append, List.append_nil, List.set_cons_zero, List.set_cons_succ, List.getElem?_cons_zero, List.getElem?_cons_succ, Option.some.injEq, V.ref.injEq, V.int.injEq, V.str.injEq, V.bl.injEq, V.ty.injEq, exists_eq_left', exists_eq_left, exists_and_left, List.cons.injEq, and_true, true_and, sc_ii, sc_ss, sc_bb, sc_ni, sc_in, sc_is, sc_si, sc_nn, decide_true, decide_false, reduceCtorEq, Bool.false_eq_true, if_true, if_false, ite_true, ite_false, exists_const, eq_self, false_and, and_false, or_false, false_or, exists_false, Evl.rLenS, rSum, wipe, tYes, exists_eq, exists_eq', rIxL, rIxT, rIxS, exists_and_right, gt_iff_lt, not_true_eq_false, not_false_eq_true, Bool.not_true, Bool.not_false, decide_eq_true_eq, Nat.reduceSub, Nat.reduceAdd, List.append_assoc, tChain, tDIn, tDNotIn, sDDel, tAug, ipI, rInt1_int, rInt1_bl, tDispN]
    intro md nmd
    refine ⟨small (by decide), fun s1 ns1 => ⟨Nat.zero_le _, fun e0 ne0 => ⟨?_, ?_⟩⟩⟩
    · exact ((Kp.new ns1).trans (Kp.new ne0) : Kp [] _ _) _ _ not0 upd_same
    have kb : Kp [] H (upd (upd (upd H md (.dK [])) s1 (.tup [.int 0, .int 0])) e0 (.lst [])) := ((Kp.new nmd).trans (Kp.new ns1)).trans (Kp.new ne0)
    have g3 : (upd (upd (upd H md (.dK [])) s1 (.tup [.int 0, .int 0])) e0 (.lst [])) s1 = some (.tup [.int 0, .int 0]) := (Kp.new ne0 : Kp [] _ _) _ _ not0 upd_same
    have g4 : (upd (upd (upd H md (.dK [])) s1 (.tup [.int 0, .int 0])) e0 (.lst [])) e0 = some (.lst []) := upd_same
    have g5 : (upd (upd (upd H md (.dK [])) s1 (.tup [.int 0, .int 0])) e0 (.lst [])) md = some (.dK []) := ((Kp.new ns1).trans (Kp.new ne0) : Kp [] _ _) _ _ not0 upd_same
    have ne00 : H e0 = none := ((Kp.new nmd).trans (Kp.new ns1 (o := .tup [.int 0, .int 0])) : Kp [] H _).free0 ne0
    generalize upd (upd (upd H md (.dK [])) s1 (.tup [.int 0, .int 0])) e0 (.lst []) = H2 at kb g3 g4 g5 ⊢
    refine ⟨keyI (0, 0), keyI_nk (s := (0, 0)) g3, fun ob' hob' => ?_⟩
    have n3 : e0 ≠ md := fun z => by rw [z, g5] at g4; cases g4
    have kd := kb.wr (o := ob') nmd
    have g6 : (upd H2 md ob') e0 = some (.lst []) := by rw [upd_ne n3]; exact g4
    generalize upd H2 md ob' = H3 at kd hob' g6 ⊢
    refine ⟨small (by decide), fun s2 ns2 => ⟨by decide, fun ql nql => ?_⟩⟩
    have ke := (Kp.new ns2 (o := .tup [.int 0, .int 0])).trans (Kp.new nql (o := .lst [.ref s2])) (S := [])
    have nql0 := (kd.trans (Kp.new ns2 (o := .tup [.int 0, .int 0]))).free0 nql
    have g7 : (upd (upd H3 s2 (.tup [.int 0, .int 0])) ql (.lst [.ref s2])) s2 = some (.tup [.int 0, .int 0]) := (Kp.new nql : Kp [] _ _) _ _ not0 upd_same
    have g8 : (upd (upd H3 s2 (.tup [.int 0, .int 0])) ql (.lst [.ref s2])) ql = some (.lst [.ref s2]) := upd_same
    have neq : e0 ≠ ql := ne_of_none ((Kp.new ns2 (o := .tup [.int 0, .int 0]) : Kp [] _ _) _ _ not0 g6) nql
    have g9 := ke _ _ not0 g6
    have hob2 := dn_kp hob' ke
    have kf := kd.trans ke
    generalize upd (upd H3 s2 (.tup [.int 0, .int 0])) ql (.lst [.ref s2]) = H4 at g7 g8 g9 hob2 kf ⊢
    have hi0 : MvI P w c a b H md ql [] [(0, 0)] 0 0 H4 := by
      refine ⟨⟨_, g8, .cons ⟨s2, rfl, g7⟩ .nil⟩, by simp, fun s hs => ?_, ⟨[((0, 0), e0)], rfl, hob2, by simp, fun i e ei => ?_⟩, kf⟩
      · rw [List.mem_singleton.mp hs]
        exact ⟨⟨Int.le_refl _, by show (0 : Int) < _; have := gA.2.2.1; omega⟩, Int.le_refl _, by show (0 : Int) < _; have := gB.2.2.1; omega⟩
      · cases i with
        | zero =>
          cases ei
          refine ⟨⟨neq, by simp⟩, ne00, [], g9, ?_⟩
          unfold partM
          rw [if_neg (by omega), if_pos rfl, List.take_zero]
          exact .nil
        | succ i => cases ei
    have hc0 : CloM c a b [(0, 0)] 0 0 := ⟨by simp, fun i s _ q z _ h => by omega⟩
    refine ⟨WMo P w c a b la lb lp md ql H H4, ⟨_, 0, _, none, none, none, none, none, rfl, hi0, hc0, Nat.zero_le _, rfl⟩, ?_⟩
    clear hi0 hc0 g7 g8 g9 hob2 kf
    rintro m' σ Hw ⟨k, G, c6, c7, c8, c9, c10, rfl, hI, hC, kl, rfl⟩
    obtain ⟨us, hql, hus⟩ := id hI.1
    have g144 : G.length ≤ 144 := by
      have := nodup_lenP hI.2.1 (m := allR a b) fun x hx => inR_all (hI.2.2.1 x hx)
      rw [allR_len] at this
      have := Nat.mul_le_mul aLen bLen
      omega
    have kw := hI.2.2.2.2
    try simp (maxSteps := 1000000) only [tSeq, tIfS, tTest, tOp, tUn, tCB, tCons, tNil, tVar, tC, rI0, rI, rU, rEq, rNe, tRet, tRetN, tAsg, gName, gSub, tBM, tBM0, tNext, tB, tNot, tAnd, tOr, tIf, tCall, tDrop, tBreak, tCont, L2.start, tDGet, sDPut, tTup, tLst, tDNewK, tRevL, rCat, rAppend, rPop, rSetL, tAndV, tOrV, tNotV, tSl, tPart, tNoPart, tM1, gTup, gCons, gNil, cxK, cxnK, List.map_cons, List.map_nil, List.length_cons, List.length_nil, List.replicate, List.cons_append, List.nil_append, List.append_nil, List.set_cons_zero, List.set_cons_succ, List.getElem?_cons_zero, List.getElem?_cons_succ, Option.some.injEq, V.ref.injEq, V.int.injEq, V.str.injEq, V.bl.injEq, V.ty.injEq, exists_eq_left', exists_eq_left, exists_and_left, List.cons.injEq, and_true, true_and, sc_ii, sc_ss, sc_bb, sc_ni, sc_in, sc_is, sc_si, sc_nn, decide_true, decide_false, reduceCtorEq, Bool.false_eq_true, if_true, if_false, ite_true, ite_false, exists_const, eq_self, false_and, and_false, or_false, false_or, exists_false, Evl.rLenS, rSum, wipe, tYes, exists_eq, exists_eq', rIxL, rIxT, rIxS, exists_and_right, gt_iff_lt, not_true_eq_false, not_false_eq_true, Bool.not_true, Bool.not_false, decide_eq_true_eq, Nat.reduceSub, Nat.reduceAdd, List.append_assoc, tChain, tDIn, tDNotIn, sDDel, tAug, ipI, rInt1_int, rInt1_bl]
    refine ⟨_, .inl (sq_l hql), ?_⟩
    rw [hus.len, List.length_map]
    by_cases e : k < G.length
    case neg =>
      rw [if_neg (by omega)]
      obtain ⟨_, h3, h4, ⟨ents, h5, h6, h7, h8⟩, _⟩ := hI
      refine q md G _ ⟨h3, hC.1, h4, fun s hs z hz t ht => ?_, ents, h5, h6, fun e' he => ?_⟩ kw
      · obtain ⟨i, ei⟩ := List.getElem?_of_mem hs
        obtain ⟨q, eq⟩ := List.getElem?_of_mem hz
        exact hC.2 i s ei q z eq (.inl (by have := (List.getElem?_eq_some_iff.mp ei).1; omega)) t ht
      · obtain ⟨i, ei⟩ := List.getElem?_of_mem he
        obtain ⟨_, _, vs, p3, p4⟩ := h8 i e' ei
        refine ⟨vs, p3, ?_⟩
        unfold partM at p4
        have := (List.getElem?_eq_some_iff.mp ei).1
        rw [if_pos (by have := congrArg List.length h5; rw [List.length_map] at this; omega)] at p4
        exact p4
    rw [if_pos (by omega)]
    refine ⟨fun σ' H' => ∃ m', m' < 145 - k ∧ WMo P w c a b la lb lp md ql H H4 m' σ' H', fun _ _ h => h, ?_⟩
    obtain ⟨⟨x, y⟩, es⟩ : ∃ s, G[k]? = some s := ⟨_, List.getElem?_eq_getElem e⟩
    obtain ⟨⟨x0, x1⟩, y0, y1⟩ := hI.2.2.1 _ (List.mem_of_getElem? es)
    dsimp only at x0 x1 y0 y1
    obtain ⟨fv, efv, fa, rfl, hfa⟩ := hus.at (i := k) (g := [x, y]) (by rw [List.getElem?_map, es]; rfl)
    have hfa : Hw fa = some (.tup [.int x, .int y]) := hfa
    refine ⟨_, sq_l hql, _, atI_nat efv, fa, rfl, _, sq_t hfa, rfl, _, _, rfl, _, _, rfl, rfl, ?_⟩
    have sA := gA.st x0 x1
    have sB := gB.st y0 y1
    refine forL_src ?_
    have hupw := hup.mono fun _ _ z => z.tp kw.tps
    have huaw := hua.mono fun _ _ z => z.tp kw.tps
    have hubw := hub.mono fun _ _ z => z.tp kw.tps
    obtain ⟨va, eva, sa, ga, oa, rfl, hsa, hga, hoa⟩ := huaw.at sA.1
    obtain ⟨vb, evb, sb, gb, obb, rfl, hsb, hgb, hobb⟩ := hubw.at sB.1
    obtain ⟨oaa, rfl, hoaa⟩ := id hoa
    obtain ⟨oba, rfl, hoba⟩ := id hobb
    refine lcG (R := PrAt) (R2 := PrAt) (fun _ _ _ _ t h => h.tp t) (fun _ _ _ _ t h => h.tp t) (fun p => letG p.1 p.2 (stOf a x).1) id (src_list (fun R q' => ⟨_, rfl, q'⟩) (sq_l (kw _ _ not0 hlp))) hupw (by omega) (fun v p H5 N N0 hp hv k5 hN hN0 => ?_) fun D us5 H5 nD hD hrw k5 => ?_
    · refine ⟨by simp [wipe], ?_⟩
      try simp (maxSteps := 1000000) only [tSeq, tIfS, tTest, tOp, tUn, tCB, tCons, tNil, tVar, tC, rI0, rI, rU, rEq, rNe, tRet, tRetN, tAsg, gName, gSub, tBM, tBM0, tNext, tB, tNot, tAnd, tOr, tIf, tCall, tDrop, tBreak, tCont, L2.start, tDGet, sDPut, tTup, tLst, tDNewK, tRevL, rCat, rAppend, rPop, rSetL, tAndV, tOrV, tNotV, tSl, tPart, tNoPart, tM1, gTup, gCons, gNil, cxK, cxnK, List.map_cons, List.map_nil, List.length_cons, List.length_nil, List.replicate, List.cons_append, List.nil_append, List.append_nil, List.set_cons_zero, List.set_cons_succ, List.getElem?_cons_zero, List.getElem?_cons_succ, Option.some.injEq, V.ref.injEq, V.int.injEq, V.str.injEq, V.bl.injEq, V.ty.injEq, exists_eq_left', exists_eq_left, exists_and_left, List.cons.injEq, and_true, true_and, sc_ii, sc_ss, sc_bb, sc_ni, sc_in, sc_is, sc_si, sc_nn, decide_true, decide_false, reduceCtorEq, Bool.false_eq_true, if_true, if_false, ite_true, ite_false, exists_const, eq_self, false_and, and_false, or_false, false_or, exists_false, Evl.rLenS, rSum, wipe, tYes, exists_eq, exists_eq', rIxL, rIxT, rIxS, exists_and_right, gt_iff_lt, not_true_eq_false, not_false_eq_true, Bool.not_true, Bool.not_false, decide_eq_true_eq, Nat.reduceSub, Nat.reduceAdd, List.append_assoc, tChain, tDIn, tDNotIn, sDDel, tAug, ipI, rInt1_int, rInt1_bl]
      obtain ⟨pa, pw, rfl, hpa, hpw⟩ := id hv
      obtain ⟨zl, z0, z1, zin⟩ := po3 _ hp
      refine ⟨_, sq_l ((kw.trans k5) _ _ not0 hla), _, atI_of x0 eva, sa, rfl, _, sq_t (k5 _ _ not0 hsa), _, rfl, ga, pa, pw, (stOf a x).1, p.1, p.2, rfl, hga.tp k5.tps, hpa, hpw, by omega, fun H6 k6 => ?_⟩
      refine ⟨_, rfl, ?_⟩
      have hv6 : PrAt H6 (.ref pa) p := hv.tp k6.tps
      by_cases hb : letG p.1 p.2 (stOf a x).1 = true
      · rw [if_pos hb]
        exact hN hb _ _ hv6 k6
      · rw [if_neg hb]
        exact hN0 (by simpa using hb) _ k6
    · rw [List.map_id] at hrw
      have hrw' : Rw (PrAt H5) us5 (mvC c a (x, y)) := hrw
      clear hrw
      have flen := full_len (a := a) (b := b) c1 c3 (x, y)
      have fl2 : (fullM c a b (x, y)).length = (mvC c a (x, y)).length := by unfold fullM; rw [List.length_map]
      have hDq : D ≠ ql := (ne_of_none hql nD).symm
      refine forLC (WMj P w c a b la lb lp md ql k x y H H5 D us5) (sq_l hD) ⟨G, _, _, _, rfl, (hI.apart nD).kp k5, hC, es, hD, Tp.refl _⟩ (fun j σ H' _ h => by obtain ⟨_, _, _, _, _, _, _, _, h, _⟩ := h; exact sq_l h) ?_ ?_
      · rintro j v σ Hj hv ⟨Gj, c8', c9', c10', rfl, hIj, hCj, esj, hDj, tpj⟩
        obtain ⟨z, ez, hz⟩ := hrw'.get hv
        have zm := List.mem_of_getElem? ez
        obtain ⟨zl, z0, z1, zin⟩ := po3 _ (mv_in zm)
        have hzj := hz.tp tpj
        obtain ⟨pa, pw, rfl, hpa, hpw⟩ := id hzj
        try simp (maxSteps := 1000000) only [tSeq, tTest, tOp, tUn, tCB, tCons, tNil, tVar, tC, rI0, rI, rU, rEq, rNe, tRet, tRetN, tAsg, gName, gSub, tBM, tBM0, tNext, tB, tNot, tAnd, tOr, tIf, tCall, tDrop, tBreak, tCont, L2.start, tDGet, sDPut, tTup, tLst, tDNewK, tRevL, rCat, rAppend, rPop, rSetL, tAndV, tOrV, tNotV, tSl, tPart, tNoPart, tM1, gTup, gCons, gNil, cxK, cxnK, List.map_cons, List.map_nil, List.length_cons, List.length_nil, List.replicate, List.cons_append, List.nil_append, List.append_nil, List.set_cons_zero, List.set_cons_succ, List.getElem?_cons_zero, List.getElem?_cons_succ, Option.some.injEq, V.ref.injEq, V.int.injEq, V.str.injEq, V.bl.injEq, V.ty.injEq, exists_eq_left', exists_eq_left, exists_and_left, List.cons.injEq, and_true, true_and, sc_ii, sc_ss, sc_bb, sc_ni, sc_in, sc_is, sc_si, sc_nn, decide_true, decide_false, reduceCtorEq, Bool.false_eq_true, if_true, if_false, ite_true, ite_false, exists_const, eq_self, false_and, and_false, or_false, false_or, exists_false, Evl.rLenS, rSum, wipe, tYes, exists_eq, exists_eq', rIxL, rIxT, rIxS, exists_and_right, gt_iff_lt, not_true_eq_false, not_false_eq_true, Bool.not_true, Bool.not_false, decide_eq_true_eq, Nat.reduceSub, Nat.reduceAdd, List.append_assoc, tChain, tDIn, tDNotIn, sDDel, tAug, ipI, rInt1_int, rInt1_bl]
        have kj := hIj.2.2.2.2
        refine ifs_both (WMm P w c a b la lb lp md ql k x y pa z H H5 D us5 j) (fun Dn hDn => ?_) fun σ' H' h => ?_
        · try simp (maxSteps := 1000000) only [tSeq, tIfS, tTest, tOp, tUn, tCB, tCons, tNil, tVar, tC, rI0, rI, rU, rEq, rNe, tRet, tRetN, tAsg, gName, gSub, tBM, tBM0, tNext, tB, tNot, tAnd, tOr, tIf, tCall, tDrop, tBreak, tCont, L2.start, tDGet, sDPut, tTup, tLst, tDNewK, tRevL, rCat, rAppend, rPop, rSetL, tAndV, tOrV, tNotV, tSl, tPart, tNoPart, tM1, gTup, gCons, gNil, cxK, cxnK, List.map_cons, List.map_nil, List.length_cons, List.length_nil, List.replicate, List.cons_append, List.nil_append, List.append_nil, List.set_cons_zero, List.set_cons_succ, List.getElem?_cons_zero, List.getElem?_cons_succ, Option.some.injEq, V.ref.injEq, V.int.injEq, V.str.injEq, V.bl.injEq, V.ty.injEq, exists_eq_left', exists_eq_left, exists_and_left, List.cons.injEq, and_true, true_and, sc_ii, sc_ss, sc_bb, sc_ni, sc_in, sc_is, sc_si, sc_nn, decide_true, decide_false, reduceCtorEq, Bool.false_eq_true, if_true, if_false, ite_true, ite_false, exists_const, eq_self, false_and, and_false, or_false, false_or, exists_false, Evl.rLenS, rSum, wipe, tYes, exists_eq, exists_eq', rIxL, rIxT, rIxS, exists_and_right, gt_iff_lt, not_true_eq_false, not_false_eq_true, Bool.not_true, Bool.not_false, decide_eq_true_eq, Nat.reduceSub, Nat.reduceAdd, List.append_assoc, tChain, tDIn, tDNotIn, sDDel, tAug, ipI, rInt1_int, rInt1_bl]
          have tpw := k5.tps.trans tpj
          refine ⟨_, sq_l (kj _ _ not0 hlb), _, atI_of y0 evb, sb, rfl, _, sq_t (tpw _ _ hsb), _, rfl, gb, pa, pw, (stOf b y).1, z.1, z.2, rfl, hgb.tp tpw, hpa, hpw, by omega, fun H6 k6 => ⟨_, rfl, ?_⟩⟩
          have hI6 := hIj.kp k6
          have k06 := hI6.2.2.2.2
          by_cases hb : letG z.1 z.2 (stOf b y).1 = true
          case neg =>
            rw [if_neg hb]
            have et : stC a b (x, y) z = none := by
              unfold stC
              exact if_neg hb
            refine hDn _ _ ⟨Gj, _, _, rfl, hI6, hCj.more esj ez (fun t ht => by rw [et] at ht; cases ht), esj, k6 _ _ not0 hDj, tpj.trans k6.tps, ?_⟩
            rw [et]
            rfl
          rw [if_pos hb]
          have et : stC a b (x, y) z = some (nxt a x z.2, nxt b y z.2) := by
            unfold stC
            exact if_pos hb
          have inrn := inR_next gA gB ⟨⟨x0, x1⟩, y0, y1⟩ z0 z1 et
          have tp6 := tpw.trans k6.tps
          have nxa := gA.nx x0 x1 z0 z1
          have nxb := gB.nx y0 y1 z0 z1
          have a1 : atI ((stOf a x).2.map V.int) z.2 = some (.int (nxt a x z.2)) := atI_of z0 (by rw [List.getElem?_map, nxa.1]; rfl)
          have b1 : atI ((stOf b y).2.map V.int) z.2 = some (.int (nxt b y z.2)) := atI_of z0 (by rw [List.getElem?_map, nxb.1]; rfl)
          refine ⟨_, sq_l (k06 _ _ not0 hla), _, atI_of x0 eva, sa, rfl, _, sq_t (tp6 _ _ hsa), _, rfl, _, sq_t (k6 _ _ not0 hpa), _, rfl, oaa, rfl, _, _, rfl, sq_t (tp6 _ _ hoaa), _, a1, ?_⟩
          refine ⟨_, sq_l (k06 _ _ not0 hlb), _, atI_of y0 evb, sb, rfl, _, sq_t (tp6 _ _ hsb), _, rfl, _, sq_t (k6 _ _ not0 hpa), _, rfl, oba, rfl, _, _, rfl, sq_t (tp6 _ _ hoba), _, b1, ?_⟩
          refine ⟨small (by decide), fun g ng => ?_⟩
          have kg := (Kp.new ng : Kp [] H6 (upd H6 g (.tup [.int (nxt a x z.2), .int (nxt b y z.2)])))
          have hg : (upd H6 g (.tup [.int (nxt a x z.2), .int (nxt b y z.2)])) g = some (.tup [.int (nxt a x z.2), .int (nxt b y z.2)]) := upd_same
          have hI7 := hI6.kp kg
          have hD7 := (k6.trans kg) _ _ not0 hDj
          have tp7 := tpj.trans (k6.trans kg).tps
          generalize upd H6 g (.tup [.int (nxt a x z.2), .int (nxt b y z.2)]) = H7 at kg hg hI7 hD7 tp7 ⊢
          obtain ⟨⟨q7, hq7, hqs7⟩, nd7, _, ⟨en7, h57, h67, h77, h87⟩, k07⟩ := id hI7
          try simp (maxSteps := 1000000) only [tSeq, tIfS, tTest, tOp, tUn, tCB, tCons, tNil, tVar, tC, rI0, rI, rU, rEq, rNe, tRet, tRetN, tAsg, gName, gSub, tBM, tBM0, tNext, tB, tNot, tAnd, tOr, tIf, tCall, tDrop, tBreak, tCont, L2.start, tDGet, sDPut, tTup, tLst, tDNewK, tRevL, rCat, rAppend, rPop, rSetL, tAndV, tOrV, tNotV, tSl, tPart, tNoPart, tM1, gTup, gCons, gNil, cxK, cxnK, List.map_cons, List.map_nil, List.length_cons, List.length_nil, List.replicate, List.cons_append, List.nil_append, List.append_nil, List.set_cons_zero, List.set_cons_succ, List.getElem?_cons_zero, List.getElem?_cons_succ, Option.some.injEq, V.ref.injEq, V.int.injEq, V.str.injEq, V.bl.injEq, V.ty.injEq, exists_eq_left', exists_eq_left, exists_and_left, List.cons.injEq, and_true, true_and, sc_ii, sc_ss, sc_bb, sc_ni, sc_in, sc_is, sc_si, sc_nn, decide_true, decide_false, reduceCtorEq, Bool.false_eq_true, if_true, if_false, ite_true, ite_false, exists_const, eq_self, false_and, and_false, or_false, false_or, exists_false, Evl.rLenS, rSum, wipe, tYes, exists_eq, exists_eq', rIxL, rIxT, rIxS, exists_and_right, gt_iff_lt, not_true_eq_false, not_false_eq_true, Bool.not_true, Bool.not_false, decide_eq_true_eq, Nat.reduceSub, Nat.reduceAdd, List.append_assoc, tChain, tDIn, tDNotIn, sDDel, tAug, ipI, rInt1_int, rInt1_bl, tNNotIn]
          refine ⟨_, h67, keyI (nxt a x z.2, nxt b y z.2), keyI_nk (s := (nxt a x z.2, nxt b y z.2)) hg, ?_⟩
          have mk : keyI (nxt a x z.2, nxt b y z.2) ∈ (en7.map fun e => (keyI e.1, V.ref e.2)).map (·.1) ↔ (nxt a x z.2, nxt b y z.2) ∈ Gj := by
            rw [List.map_map, ← h57]
            constructor
            · intro h
              obtain ⟨e', he', ee⟩ := List.mem_map.mp h
              exact List.mem_map.mpr ⟨e', he', keyI_inj ee⟩
            · intro h
              obtain ⟨e', he', ee⟩ := List.mem_map.mp h
              exact List.mem_map.mpr ⟨e', he', by show keyI e'.1 = _; rw [ee]⟩
          have gj144 : Gj.length ≤ 144 := by
            have := nodup_lenP hIj.2.1 (m := allR a b) fun x hx => inR_all (hIj.2.2.1 x hx)
            rw [allR_len] at this
            have := Nat.mul_le_mul aLen bLen
            omega
          have el7 : en7.length = Gj.length := by
            have := congrArg List.length h57
            simpa using this
          have klj := (List.getElem?_eq_some_iff.mp esj).1
          rw [valN_isK]
          by_cases hgm : (nxt a x z.2, nxt b y z.2) ∈ Gj
          · rw [decide_eq_true (mk.mpr hgm), if_neg (by simp)]
            refine hDn _ _ ⟨Gj, _, _, rfl, hI7, hCj.more esj ez (fun t ht => by rw [et] at ht; cases ht; exact hgm), esj, hD7, tp7, ?_⟩
            rw [et]
            exact ⟨g, rfl, hg⟩
          · rw [decide_eq_false (fun h => hgm (mk.mp h)), if_pos (by simp)]
            try simp (maxSteps := 1000000) only [tSeq, tIfS, tTest, tOp, tUn, tCB, tCons, tNil, tVar, tC, rI0, rI, rU, rEq, rNe, tRet, tRetN, tAsg, gName, gSub, tBM, tBM0, tNext, tB, tNot, tAnd, tOr, tIf, tCall, tDrop, tBreak, tCont, L2.start, tDGet, sDPut, tTup, tLst, tDNewK, tRevL, rCat, rAppend, rPop, rSetL, tAndV, tOrV, tNotV, tSl, tPart, tNoPart, tM1, gTup, gCons, gNil, cxK, cxnK, List.map_cons, List.map_nil, List.length_cons, List.length_nil, List.replicate, List.cons_append, List.nil_append, List.append_nil, List.set_cons_zero, List.set_cons_succ, List.getElem?_cons_zero, List.getElem?_cons_succ, Option.some.injEq, V.ref.injEq, V.int.injEq, V.str.injEq, V.bl.injEq, V.ty.injEq, exists_eq_left', exists_eq_left, exists_and_left, List.cons.injEq, and_true, true_and, sc_ii, sc_ss, sc_bb, sc_ni, sc_in, sc_is, sc_si, sc_nn, decide_true, decide_false, reduceCtorEq, Bool.false_eq_true, if_true, if_false, ite_true, ite_false, exists_const, eq_self, false_and, and_false, or_false, false_or, exists_false, Evl.rLenS, rSum, wipe, tYes, exists_eq, exists_eq', rIxL, rIxT, rIxS, exists_and_right, gt_iff_lt, not_true_eq_false, not_false_eq_true, Bool.not_true, Bool.not_false, decide_eq_true_eq, Nat.reduceSub, Nat.reduceAdd, List.append_assoc, tChain, tDIn, tDNotIn, sDDel, tAug, ipI, rInt1_int, rInt1_bl, sNPut]
            refine ⟨Nat.zero_le _, fun l nl => ?_⟩
            have kl7 := (Kp.new nl : Kp [] H7 (upd H7 l (.lst [])))
            have hl8 : (upd H7 l (.lst [])) l = some (.lst []) := upd_same
            have nl0 := k07.free0 nl
            have nlq : l ≠ ql := (ne_of_none hq7 nl).symm
            have nle : ∀ e ∈ en7, e.2 ≠ l := fun e he => by
              obtain ⟨i, ei⟩ := List.getElem?_of_mem he
              obtain ⟨_, _, vs, p3, _⟩ := h87 i e ei
              exact ne_of_none p3 nl
            have nlD : D ≠ l := ne_of_none hD7 nl
            have hI8 := hI7.kp kl7
            have hg8 := kl7 _ _ not0 hg
            have hD8 := kl7 _ _ not0 hD7
            have hq8 := kl7 _ _ not0 hq7
            have h68 := dn_kp h67 kl7
            have h88 : ∀ (i : Nat) (e : S2 × Addr), en7[i]? = some e → (e.2 ≠ ql ∧ e.2 ∉ [D]) ∧ H e.2 = none ∧ ∃ us, (upd H7 l (.lst [])) e.2 = some (.lst us) ∧ Rw (MvAt (upd H7 l (.lst []))) us (partM c a b k j i e.1) := fun i e ei => by
              obtain ⟨p1, p2, vs, p3, p4⟩ := h87 i e ei
              exact ⟨p1, p2, vs, kl7 _ _ not0 p3, p4.mono fun _ _ z => z.tp kl7.tps⟩
            have tp8 := tp7.trans kl7.tps
            generalize upd H7 l (.lst []) = H8 at kl7 hl8 hI8 hg8 hD8 hq8 h68 h88 tp8 ⊢
            refine ⟨_, h68, keyI (nxt a x z.2, nxt b y z.2), keyI_nk (s := (nxt a x z.2, nxt b y z.2)) hg8, by rw [List.length_map]; exact smallL (by omega), fun ob2 hob2 => ?_⟩
            obtain ⟨hfa9, hI9, _⟩ := hI8.add (t := (nxt a x z.2, nxt b y z.2)) (g := g) (l := l) nql0 nmd klj hg8 hl8 nl0 ⟨nlq, by simpa using nlD.symm⟩ inrn hgm h57 h68 h77 h88 nle hob2 hq8
            refine ⟨.inl ⟨rfl, _, sq_l hfa9⟩, q7, hfa9, by rw [hqs7.len, List.length_map]; exact smallL (by omega), ?_⟩
            have tp9 : Tp H8 (upd (upd H8 md ob2) ql (.lst (q7 ++ [.ref g]))) := (show Tp H8 (upd H8 md ob2) from fun xx xs ee => by rw [upd_ne (dn_nt h68 ee)]; exact ee).trans ((Tp.refl _).putL hfa9)
            have esj2 : (Gj ++ [(nxt a x z.2, nxt b y z.2)])[k]? = some (x, y) := by rw [List.getElem?_append_left klj]; exact esj
            refine hDn _ _ ⟨Gj ++ [(nxt a x z.2, nxt b y z.2)], _, _, rfl, hI9, (hCj.grow klj).more esj2 ez (fun t ht => by rw [et] at ht; cases ht; simp), esj2, ?_, tp8.trans tp9, ?_⟩
            · have nDq : D ≠ ql := hDq
              rw [upd_ne nDq, upd_ne (dn_nl h68 hD8)]
              exact hD8
            · rw [et]
              exact ⟨g, rfl, tp9 _ _ hg8⟩
        · obtain ⟨G6, c9'', tv, rfl, hI6, hC6, es6, hD6, tp6, hop6⟩ := h
          try simp (maxSteps := 1000000) only [tSeq, tIfS, tTest, tOp, tUn, tCB, tCons, tNil, tVar, tC, rI0, rI, rU, rEq, rNe, tRet, tRetN, tAsg, gName, gSub, tBM, tBM0, tNext, tB, tNot, tAnd, tOr, tIf, tCall, tDrop, tBreak, tCont, L2.start, tDGet, sDPut, tTup, tLst, tDNewK, tRevL, rCat, rAppend, rPop, rSetL, tAndV, tOrV, tNotV, tSl, tPart, tNoPart, tM1, gTup, gCons, gNil, cxK, cxnK, List.map_cons, List.map_nil, List.length_cons, List.length_nil, List.replicate, List.cons_append, List.nil_append, List.append_nil, List.set_cons_zero, List.set_cons_succ, List.getElem?_cons_zero, List.getElem?_cons_succ, Option.some.injEq, V.ref.injEq, V.int.injEq, V.str.injEq, V.bl.injEq, V.ty.injEq, exists_eq_left', exists_eq_left, exists_and_left, List.cons.injEq, and_true, true_and, sc_ii, sc_ss, sc_bb, sc_ni, sc_in, sc_is, sc_si, sc_nn, decide_true, decide_false, reduceCtorEq, Bool.false_eq_true, if_true, if_false, ite_true, ite_false, exists_const, eq_self, false_and, and_false, or_false, false_or, exists_false, Evl.rLenS, rSum, wipe, tYes, exists_eq, exists_eq', rIxL, rIxT, rIxS, exists_and_right, gt_iff_lt, not_true_eq_false, not_false_eq_true, Bool.not_true, Bool.not_false, decide_eq_true_eq, Nat.reduceSub, Nat.reduceAdd, List.append_assoc, tChain, tDIn, tDNotIn, sDDel, tAug, ipI, rInt1_int, rInt1_bl, tNGet]
          refine ⟨small (by decide), fun p1 np1 => ?_⟩
          have k1 := (Kp.new np1 : Kp [] H' (upd H' p1 (.tup [.int x, .int y])))
          have hp1 : (upd H' p1 (.tup [.int x, .int y])) p1 = some (.tup [.int x, .int y]) := upd_same
          have hI7 := hI6.kp k1
          have hD7 := k1 _ _ not0 hD6
          have tp7 := tp6.trans k1.tps
          have hop7 := hop6.tp k1.tps
          generalize upd H' p1 (.tup [.int x, .int y]) = H7 at k1 hp1 hI7 hD7 tp7 hop7 ⊢
          obtain ⟨⟨q7, hq7, hqs7⟩, nd7, _, ⟨en7, h57, h67, h77, h87⟩, k07⟩ := id hI7
          obtain ⟨⟨s', l⟩, ek, es'⟩ : ∃ e : S2 × Addr, en7[k]? = some e ∧ e.1 = (x, y) := by
            have := es6
            rw [← h57, List.getElem?_map] at this
            cases e : en7[k]? with
            | none => rw [e] at this; cases this
            | some e' => rw [e] at this; exact ⟨e', rfl, Option.some.inj this⟩
          dsimp only at es'
          subst es'
          have ndk : ((en7.map fun e => (keyI e.1, V.ref e.2)).map (·.1)).Nodup := by
            have : (en7.map fun e => (keyI e.1, V.ref e.2)).map (·.1) = G6.map keyI := by rw [← h57, List.map_map, List.map_map]; rfl
            rw [this]
            exact List.pairwise_map.mpr (nd7.imp fun h z => h (keyI_inj z))
          obtain ⟨r1, r2, rus, r3, r4⟩ := h87 k _ ek
          dsimp only at r1 r2 r3 r4
          refine ⟨_, h67, keyI (x, y), keyI_nk (s := (x, y)) hp1, _, valN_nd ndk (i := k) (v := .ref l) (by rw [List.getElem?_map, ek]; rfl), .inl ⟨rfl, _, sq_l r3⟩, small (by decide), fun p2 np2 => ?_⟩
          have k2 := (Kp.new np2 : Kp [] H7 (upd H7 p2 (.tup [.ref pa, tv])))
          have hp2 : (upd H7 p2 (.tup [.ref pa, tv])) p2 = some (.tup [.ref pa, tv]) := upd_same
          have hI8 := hI7.kp k2
          have hD8 := k2 _ _ not0 hD7
          have tp8 := tp7.trans k2.tps
          have hop8 := hop7.tp k2.tps
          have r38 := k2 _ _ not0 r3
          have h68 := dn_kp h67 k2
          have h88 : ∀ (i : Nat) (e : S2 × Addr), en7[i]? = some e → (e.2 ≠ ql ∧ e.2 ∉ [D]) ∧ H e.2 = none ∧ ∃ us, (upd H7 p2 (.tup [.ref pa, tv])) e.2 = some (.lst us) ∧ Rw (MvAt (upd H7 p2 (.tup [.ref pa, tv]))) us (partM c a b k j i e.1) := fun i e ei => by
            obtain ⟨p1, p2, vs, p3, p4⟩ := h87 i e ei
            exact ⟨p1, p2, vs, k2 _ _ not0 p3, p4.mono fun _ _ z => z.tp k2.tps⟩
          generalize upd H7 p2 (.tup [.ref pa, tv]) = H8 at k2 hp2 hI8 hD8 tp8 hop8 r38 h68 h88 ⊢
          have hz8 := hz.tp tp8
          have jl := (List.getElem?_eq_some_iff.mp ez).1
          refine ⟨l, rfl, rus, r38, ?_, ?_⟩
          · rw [r4.len]
            unfold partM
            rw [if_neg (by omega), if_pos rfl, List.length_take]
            exact smallL (by omega)
          · have hI9 := hI8.app h57 h68 h77 h88 ek r38 ⟨p2, .ref pa, tv, rfl, hp2, hz8, hop8⟩ (m := (z, stC a b (x, y) z)) (by unfold fullM; rw [List.getElem?_map, ez]; rfl)
            refine ⟨G6, _, _, _, rfl, hI9, hC6, es6, ?_, tp8.trans ((Tp.refl _).putL r38)⟩
            have nDl : D ≠ l := fun z => r1.2 (by simp [z])
            rw [upd_ne nDl]
            exact hD8
      · rintro σ Hj ⟨Gj, c8', c9', c10', rfl, hIj, hCj, esj, hDj, tpj⟩
        try simp (maxSteps := 1000000) only [tSeq, tIfS, tTest, tOp, tUn, tCB, tCons, tNil, tVar, tC, rI0, rI, rU, rEq, rNe, tRet, tRetN, tAsg, gName, gSub, tBM, tBM0, tNext, tB, tNot, tAnd, tOr, tIf, tCall, tDrop, tBreak, tCont, L2.start, tDGet, sDPut, tTup, tLst, tDNewK, tRevL, rCat, rAppend, rPop, rSetL, tAndV, tOrV, tNotV, tSl, tPart, tNoPart, tM1, gTup, gCons, gNil, cxK, cxnK, List.map_cons, List.map_nil, List.length_cons, List.length_nil, List.replicate, List.cons_append, List.nil_append, List.append_nil, List.set_cons_zero, List.set_cons_succ, List.getElem?_cons_zero, List.getElem?_cons_succ, Option.some.injEq, V.ref.injEq, V.int.injEq, V.str.injEq, V.bl.injEq, V.ty.injEq, exists_eq_left', exists_eq_left, exists_and_left, List.cons.injEq, and_true, true_and, sc_ii, sc_ss, sc_bb, sc_ni, sc_in, sc_is, sc_si, sc_nn, decide_true, decide_false, reduceCtorEq, Bool.false_eq_true, if_true, if_false, ite_true, ite_false, exists_const, eq_self, false_and, and_false, or_false, false_or, exists_false, Evl.rLenS, rSum, wipe, tYes, exists_eq, exists_eq', rIxL, rIxT, rIxS, exists_and_right, gt_iff_lt, not_true_eq_false, not_false_eq_true, Bool.not_true, Bool.not_false, decide_eq_true_eq, Nat.reduceSub, Nat.reduceAdd, List.append_assoc, tChain, tDIn, tDNotIn, sDDel, tAug, ipI, rInt1_int, rInt1_bl]
        have hl5 := hrw'.len
        refine ⟨145 - (k + 1), by omega, k + 1, Gj, _, _, _, _, _, rfl, (hIj.next esj (by rw [fl2, hl5]; exact Nat.le_refl _)).less (fun _ h => nomatch h), ⟨hCj.1, fun i s' ei q z' eq hl t et => hCj.2 i s' ei q z' eq ?_ t et⟩, by have := (List.getElem?_eq_some_iff.mp esj).1; omega, rfl⟩
        rcases hl with hl | hl
        · by_cases hik : i = k
          · subst hik
            rw [esj] at ei
            cases ei
            have := (List.getElem?_eq_some_iff.mp eq).1
            exact .inr ⟨rfl, by omega⟩
          · exact .inl (by omega)
        · omega
end
end My

set_option Elab.async false
set_option linter.all false
set_option maxRecDepth 100000
set_option maxHeartbeats 4000000
namespace My
open PySem L2 NdefX StX
abbrev s_law_ends : Stmt := top 28
theorem sc_law_ends : FnScope ["_law_move", "_law_far", "_law_turn"] ["_law_move", "_law_far", "_law_turn"] (defScope s_law_ends) := ⟨rfl, rfl, rfl, by decide +kernel, rfl, by decide +kernel, by decide +kernel⟩
/-- at fd how far each told state is from parting -/
def FarAt (P : Program) (w : World) (H : Hp) (fd : Addr) (F : List (S2 × Nat)) : Prop := DnAt P w H fd (F.map fun e => (keyI e.1, V.int (e.2 : Nat)))
def farV (F : List (S2 × Nat)) (s : S2) : Nat := ((F.find? fun e => decide (e.1 = s)).map (·.2)).getD 0
def endB (F : List (S2 × Nat)) (t : Nat) : Option S2 → Bool
  | none => decide (t = 1)
  | some s => decide (1 < t) && decide (farV F s = t - 1)
theorem valN_far (F : List (S2 × Nat)) (s : S2) : valN (F.map fun e => (keyI e.1, V.int (e.2 : Nat))) (keyI s) = ((F.find? fun e => decide (e.1 = s)).map (·.2)).map fun n => V.int (n : Nat) := by
  unfold valN
  rw [List.find?_map, Option.map_map, Option.map_map]
  have e : ((fun p : NestedKey × V => decide (p.1 = keyI s)) ∘ fun e : S2 × Nat => (keyI e.1, V.int (e.2 : Nat))) = fun e => decide (e.1 = s) := by
    funext e
    show decide (keyI e.1 = keyI s) = decide (e.1 = s)
    exact decide_eq_decide.mpr ⟨fun h => keyI_inj h, fun h => by rw [h]⟩
  rw [e]
  rfl
theorem farV_mem : ∀ {F : List (S2 × Nat)} {s : S2} {n : Nat}, (F.map (·.1)).Nodup → (s, n) ∈ F → farV F s = n
  | [], _, _, _, h => nomatch h
  | e :: F, s, n, nd, h => by
    rw [List.map_cons, List.nodup_cons] at nd
    unfold farV
    rcases List.mem_cons.mp h with h | h
    · subst h
      rw [List.find?_cons_of_pos (by simp)]
      rfl
    · have ne : e.1 ≠ s := fun z => nd.1 (by rw [z]; exact List.mem_map.mpr ⟨_, h, rfl⟩)
      rw [List.find?_cons_of_neg]
      · exact farV_mem nd.2 h
      · simpa using ne
theorem farV_in {F : List (S2 × Nat)} {s : S2} (h : farV F s ≠ 0) : (s, farV F s) ∈ F := by
  unfold farV at h ⊢
  cases e : F.find? fun e => decide (e.1 = s) with
  | none => rw [e] at h; exact absurd rfl h
  | some x =>
    have h1 := List.mem_of_find?_eq_some e
    have h2 : x.1 = s := by simpa using List.find?_some e
    show (s, x.2) ∈ F
    rw [← h2]
    exact h1
/-- all states of G that are at most T from parting are told -/
structure FarOk (c : Nat) (a b : List Cst) (G : List S2) (T : Nat) (F : List (S2 × Nat)) : Prop where
  nd : (F.map (·.1)).Nodup
  sub : ∀ e ∈ F, e.1 ∈ G ∧ e.2 ≤ T ∧ BO.Dst (mvC c a) (stC a b) e.1 e.2
  all : ∀ s ∈ G, ∀ k, k ≤ T → BO.Dst (mvC c a) (stC a b) s k → (s, k) ∈ F
theorem FarOk.ends {c : Nat} {a b : List Cst} {G : List S2} {T t : Nat} {F : List (S2 × Nat)} (h : FarOk c a b G T F) {s : S2} {z : Pr} (hc : ∀ x, stC a b s z = some x → x ∈ G) (tT : t ≤ T) : endB F (t + 1) (stC a b s z) = true ↔ BO.Fit (mvC c a) (stC a b) s t z := by
  unfold BO.Fit
  cases e : stC a b s z with
  | none =>
    show decide (t + 1 = 1) = true ↔ t = 0
    rw [decide_eq_true_eq]
    omega
  | some x =>
    show (decide (1 < t + 1) && decide (farV F x = t + 1 - 1)) = true ↔ 1 ≤ t ∧ _
    rw [Bool.and_eq_true, decide_eq_true_eq, decide_eq_true_eq, Nat.add_sub_cancel]
    constructor
    · rintro ⟨h1, h2⟩
      refine ⟨by omega, ?_⟩
      have := farV_in (F := F) (s := x) (by omega)
      rw [h2] at this
      exact (h.sub _ this).2.2
    · rintro ⟨h1, h2⟩
      exact ⟨by omega, farV_mem h.nd (h.all x (hc x e) t tT h2)⟩
section
variable {P : Program} {w : World} {K : PySem.W.Frag} {mg : Str → Option Value} {base : Heap} {t1 t2 : Tok}
def spEnds (P : Program) (w : World) : Sp := fun vs H Q _ => ∃ (v : V) (fd : Addr) (t : Nat) (m : Pr × Option S2) (F : List (S2 × Nat)), vs = [v, .ref fd, .int (t : Nat)] ∧ MvAt H v m ∧ FarAt P w H fd F ∧ ∀ H', Kp [] H H' → Q (.bl (endB F t m.2)) H'
theorem ok_law_ends {f : Addr} {fd : FuncData} (D : Df K mg "_law_ends" s_law_ends ["_law_move", "_law_far", "_law_turn"] f fd) (T : BtW mg) : FnOk P w K mg base CX0 1 f fd ["_law_move", "_law_far", "_law_turn"] (spEnds P w) := by
  refine D.F.ok sc_law_ends (fun vs H Q E h => ?_) (fun cdv A outer s H vs Q E hr h => ?_)
  · obtain ⟨_, _, _, _, _, rfl, _⟩ := h
    rfl
  · obtain ⟨v, fd', t, m, F, rfl, hm, hF, q⟩ := h
    obtain ⟨x, pw, tw, rfl, hx, hp, ho⟩ := hm
    have hu := hu_of hr
    refine ⟨_, (pss_cons (ps_if (pt_cmpR op_isN (pe_ix (r := rIxT K) ix_tup (pv 0) pe_int (fun _ _ => rfl)) pe_non (nomark _)) (pss_one (ps_ret (pe_cmpR op_eq (pv 2) pe_int (nomark _)))) pss_nil)
      (pss_one (ps_ret (pe_and (pe_cmpR op_gt (pv 2) pe_int (nomark _)) (pe_one (pe_cmpR op_eq (pe_ngor hr.units (pv 1) (pa_cons (pe_ix (r := rIxT K) ix_tup (pv 0) pe_int (fun _ _ => rfl)) (pa_cons pe_int pa_nil))) (pe_op op_sub (pv 2) pe_int) (nomark _))))))), ?_⟩
    try simp (maxSteps := 1000000) only [tSeq, tIfS, tTest, tOp, tUn, tCB, tCons, tNil, tVar, tC, rI0, rI, rU, rEq, rNe, tRet, tRetN, tAsg, gName, gSub, tBM, tBM0, tNext, tB, tNot, tAnd, tOr, tIf, tCall, tDrop, tBreak, tCont, L2.start, tDGet, sDPut, tTup, tLst, tDNewK, tRevL, rCat, rAppend, rPop, rSetL, tAndV, tOrV, tNotV, tSl, tPart, tNoPart, tM1, gTup, gCons, gNil, cxK, cxnK, List.map_cons, List.map_nil, List.length_cons, List.length_nil, List.replicate, List.cons_append, List.nil_append, List.append_nil, List.set_cons_zero, List.set_cons_succ, List.getElem?_cons_zero, List.getElem?_cons_succ, Option.some.injEq, V.ref.injEq, V.int.injEq, V.str.injEq, V.bl.injEq, V.ty.injEq, exists_eq_left', exists_eq_left, exists_and_left, List.cons.injEq, and_true, true_and, sc_ii, sc_ss, sc_bb, sc_ni, sc_in, sc_is, sc_si, sc_nn, decide_true, decide_false, reduceCtorEq, Bool.false_eq_true, if_true, if_false, ite_true, ite_false, exists_const, eq_self, false_and, and_false, or_false, false_or, exists_false, Evl.rLenS, rSum, wipe, tYes, exists_eq, exists_eq', rIxL, rIxT, rIxS, exists_and_right, gt_iff_lt, not_true_eq_false, not_false_eq_true, Bool.not_true, Bool.not_false, decide_eq_true_eq, Nat.reduceSub, Nat.reduceAdd, List.append_assoc, tChain, tDIn, tDNotIn, sDDel, tAug, ipI, rInt1_int, rInt1_bl, tNGor]
    refine ⟨_, sq_t hx, tw, rfl, ?_⟩
    cases e : m.2 with
    | none =>
      rw [e] at ho
      have ho : tw = .non := ho
      rw [if_pos ho]
      have := q H (Kp.refl _ _)
      rw [e] at this
      unfold endB at this
      rwa [show decide ((t : Int) = 1) = decide (t = 1) from decide_eq_decide.mpr (by omega)]
    | some s =>
      rw [e] at ho
      obtain ⟨g, rfl, hg⟩ := ho
      rw [if_neg (fun z => nomatch z)]
      have this : Q (.bl (decide (1 < t) && decide (farV F s = t - 1))) H := by
        have := q H (Kp.refl _ _)
        rw [e] at this
        exact this
      by_cases h1 : 1 < t
      · rw [if_pos (by omega)]
        rw [decide_eq_true h1, Bool.true_and] at this
        refine ⟨⟨_, hF⟩, _, sq_t hx, _, rfl, _, keyI s, _, _, ⟨rfl, rfl⟩, hF, keyI_nk hg, fun v' hv => ⟨?_, ?_⟩, fun hv => ⟨rfl, ?_⟩⟩
        · rw [valN_far] at hv
          obtain ⟨n, _, rfl⟩ := Option.map_eq_some_iff.mp hv
          rfl
        · rw [valN_far] at hv
          obtain ⟨n, en, rfl⟩ := Option.map_eq_some_iff.mp hv
          have ef : farV F s = n := by unfold farV; rw [en]; rfl
          rw [ef] at this
          rwa [show decide (V.int (n : Nat) = V.int ((t : Int) - 1)) = decide (n = t - 1) from decide_eq_decide.mpr ⟨fun h => by injection h with h; omega, fun h => by rw [h]; congr 1; omega⟩]
        · rw [valN_far] at hv
          have ef : farV F s = 0 := by
            unfold farV
            rw [Option.map_eq_none_iff] at hv
            rw [hv]
            rfl
          rw [ef] at this
          rwa [show decide (V.int 0 = V.int ((t : Int) - 1)) = decide (0 = t - 1) from decide_eq_decide.mpr ⟨fun h => by injection h with h; omega, fun h => by omega⟩]
      · rw [if_neg (by omega)]
        rw [decide_eq_false h1, Bool.false_and] at this
        exact this
end
end My

set_option Elab.async false
set_option linter.all false
set_option maxRecDepth 100000
set_option maxHeartbeats 4000000
namespace My
open PySem L2 NdefX StX
/-! ### rounds: the states that are one move further from parting -/
def fndP (c : Nat) (a b : List Cst) (F : List (S2 × Nat)) (t : Nat) (s : S2) : Bool := !(decide (s ∈ F.map (·.1))) && (fullM c a b s).any fun m => endB F t m.2
theorem fnd_iff {c : Nat} {a b : List Cst} {G : List S2} {j : Nat} {F : List (S2 × Nat)} (h : FarOk c a b G j F) (hc : ∀ s ∈ G, ∀ z ∈ mvC c a s, ∀ t, stC a b s z = some t → t ∈ G) {s : S2} (hs : s ∈ G) : fndP c a b F (j + 1) s = true ↔ BO.Dst (mvC c a) (stC a b) s (j + 1) := by
  unfold fndP
  rw [Bool.and_eq_true, BO.dst_iff]
  refine and_congr ?_ ?_
  · rw [Bool.not_eq_true', decide_eq_false_iff_not]
    constructor
    · intro hn k hk hd
      exact hn (List.mem_map.mpr ⟨_, h.all s hs k hk hd, rfl⟩)
    · intro hn hm
      obtain ⟨e, he, rfl⟩ := List.mem_map.mp hm
      obtain ⟨_, h2, h3⟩ := h.sub e he
      exact hn _ h2 h3
  · rw [List.any_eq_true]
    constructor
    · rintro ⟨m, hm, he⟩
      unfold fullM at hm
      obtain ⟨z, hz, rfl⟩ := List.mem_map.mp hm
      exact ⟨z, hz, (h.ends (hc s hs z hz) (Nat.le_refl _)).mp he⟩
    · rintro ⟨z, hz, hf⟩
      exact ⟨(z, stC a b s z), List.mem_map.mpr ⟨z, hz, rfl⟩, (h.ends (hc s hs z hz) (Nat.le_refl _)).mpr hf⟩
theorem FarOk.step {c : Nat} {a b : List Cst} {G : List S2} {j : Nat} {F : List (S2 × Nat)} (h : FarOk c a b G j F) (hg : G.Nodup) (hc : ∀ s ∈ G, ∀ z ∈ mvC c a s, ∀ t, stC a b s z = some t → t ∈ G) : FarOk c a b G (j + 1) (F ++ (G.filter (fndP c a b F (j + 1))).map fun s => (s, j + 1)) := by
  have nf : ∀ s ∈ G.filter (fndP c a b F (j + 1)), s ∈ G ∧ s ∉ F.map (·.1) := fun s hs => by
    obtain ⟨h1, h2⟩ := List.mem_filter.mp hs
    refine ⟨h1, fun hm => ?_⟩
    unfold fndP at h2
    rw [Bool.and_eq_true, Bool.not_eq_true', decide_eq_false_iff_not] at h2
    exact h2.1 hm
  refine ⟨?_, fun e he => ?_, fun s hs k hk hd => ?_⟩
  · rw [List.map_append, List.map_map]
    have e : ((G.filter (fndP c a b F (j + 1))).map ((fun e : S2 × Nat => e.1) ∘ fun s => (s, j + 1))) = G.filter (fndP c a b F (j + 1)) := (List.map_congr_left fun _ _ => rfl).trans (List.map_id _)
    rw [e]
    exact List.nodup_append.mpr ⟨h.nd, hg.sublist List.filter_sublist, fun x hx y hy e => (nf y hy).2 (by rw [← e]; exact hx)⟩
  · rcases List.mem_append.mp he with he | he
    · obtain ⟨h1, h2, h3⟩ := h.sub e he
      exact ⟨h1, by omega, h3⟩
    · obtain ⟨s, hs, rfl⟩ := List.mem_map.mp he
      obtain ⟨h1, h2⟩ := List.mem_filter.mp hs
      exact ⟨h1, Nat.le_refl _, (fnd_iff h hc h1).mp h2⟩
  · by_cases hk' : k ≤ j
    · exact List.mem_append_left _ (h.all s hs k hk' hd)
    · have ek : k = j + 1 := by omega
      subst ek
      exact List.mem_append_right _ (List.mem_map.mpr ⟨s, List.mem_filter.mpr ⟨hs, (fnd_iff h hc hs).mpr hd⟩, rfl⟩)
theorem run_in {c : Nat} {a b : List Cst} {G : List S2} (hc : ∀ s ∈ G, ∀ z ∈ mvC c a s, ∀ t, stC a b s z = some t → t ∈ G) : ∀ {w : List Pr} {s x : S2}, s ∈ G → BO.runO (mvC c a) (stC a b) s w x → x ∈ G
  | [], s, x, hs, h => by cases h; exact hs
  | z :: w, s, x, hs, ⟨hz, t, e, r⟩ => run_in hc (hc s hs z hz t e) r
/-- no state is one move further: none further at all -/
theorem FarOk.stop {c : Nat} {a b : List Cst} {G : List S2} {j : Nat} {F : List (S2 × Nat)} (h : FarOk c a b G j F) (h0 : (0, 0) ∈ G) (hc : ∀ s ∈ G, ∀ z ∈ mvC c a s, ∀ t, stC a b s z = some t → t ∈ G) (hn : G.filter (fndP c a b F (j + 1)) = []) (h00 : (0, 0) ∉ F.map (·.1)) : ∀ w, ¬ BO.Par (mvC c a) (stC a b) (0, 0) w := by
  intro w hw
  obtain ⟨T, hT, _⟩ := BO.Dst.ex hw
  by_cases hj : T ≤ j
  · exact h00 (List.mem_map.mpr ⟨_, h.all _ h0 T hj hT, rfl⟩)
  · obtain ⟨d, rfl⟩ : ∃ d, T = j + 1 + d := ⟨T - (j + 1), by omega⟩
    obtain ⟨x, w', hr, hx⟩ := BO.dst_down hT
    have hxG := run_in hc h0 hr
    have : x ∈ G.filter (fndP c a b F (j + 1)) := List.mem_filter.mpr ⟨hxG, (fnd_iff h hc hxG).mpr hx⟩
    rw [hn] at this
    cases this
theorem FarOk.len {c : Nat} {a b : List Cst} {G : List S2} {j : Nat} {F : List (S2 × Nat)} (h : FarOk c a b G j F) : F.length ≤ G.length := by
  have := nodup_lenP h.nd (m := G) fun x hx => by
    obtain ⟨e, he, rfl⟩ := List.mem_map.mp hx
    exact (h.sub e he).1
  rwa [List.length_map] at this
/-- the first of the filtered ones -/
theorem fst_filter {α : Type} {p : α → Bool} : ∀ {l : List α} {z : α} {r : List α}, l.filter p = z :: r → BO.Fst l (fun x => p x = true) z
  | [], _, _, h => nomatch h
  | x :: l, z, r, h => by
    by_cases hx : p x = true
    · rw [List.filter_cons_of_pos hx] at h
      cases h
      exact ⟨[], l, rfl, hx, fun y hy => nomatch hy⟩
    · rw [List.filter_cons_of_neg hx] at h
      obtain ⟨u, v, e, h1, h2⟩ := fst_filter h
      refine ⟨x :: u, v, by rw [e]; rfl, h1, fun y hy => ?_⟩
      rcases List.mem_cons.mp hy with rfl | hy
      · exact hx
      · exact h2 y hy
/-- the first move that fits, as the law finds it -/
theorem FarOk.first {c : Nat} {a b : List Cst} {G : List S2} {T t : Nat} {F : List (S2 × Nat)} (h : FarOk c a b G T F) (hc : ∀ s ∈ G, ∀ z ∈ mvC c a s, ∀ t, stC a b s z = some t → t ∈ G) {s : S2} (hs : s ∈ G) (tT : t ≤ T) {m : Pr × Option S2} {r : List (Pr × Option S2)} (e : (fullM c a b s).filter (fun m => endB F (t + 1) m.2) = m :: r) :
    m.2 = stC a b s m.1 ∧ m.1 ∈ mvC c a s ∧ BO.Fst (mvC c a s) (BO.Fit (mvC c a) (stC a b) s t) m.1 := by
  have e2 := e
  unfold fullM at e2
  rw [List.filter_map] at e2
  have hm : m ∈ fullM c a b s := (List.mem_filter.mp (by rw [e]; exact List.mem_cons_self)).1
  unfold fullM at hm
  obtain ⟨z, hz, rfl⟩ := List.mem_map.mp hm
  refine ⟨rfl, hz, ?_⟩
  cases el : (mvC c a s).filter ((fun m : Pr × Option S2 => endB F (t + 1) m.2) ∘ fun z => (z, stC a b s z)) with
  | nil => rw [el] at e2; cases e2
  | cons z' r' =>
    rw [el] at e2
    have e3 : z' = z := by
      have := (List.cons.inj e2).1
      exact congrArg Prod.fst this
    subst e3
    obtain ⟨u, v, e4, h1, h2⟩ := fst_filter el
    have mem : ∀ y, y ∈ u → y ∈ mvC c a s := fun y hy => by rw [e4]; exact List.mem_append_left _ hy
    exact ⟨u, v, e4, (h.ends (hc s hs z' hz) tT).mp h1, fun y hy hf => h2 y hy ((h.ends (hc s hs y (mem y hy)) tT).mpr hf)⟩
theorem nk_tup {H : Hp} {v : V} {s : S2} (h : NkAt H v (keyI s)) : ∃ t, v = .ref t ∧ H t = some (.tup [.int s.1, .int s.2]) := by
  generalize e : keyI s = k at h
  unfold keyI at e
  cases h with
  | tup ha hs =>
    cases e
    cases hs with
    | cons h1 hs =>
      cases hs with
      | cons h2 hs =>
        cases hs
        cases h1
        cases h2
        exact ⟨_, rfl, ha⟩
  | _ => cases e
end My

set_option Elab.async false
set_option linter.all false
set_option maxRecDepth 100000
set_option maxHeartbeats 4000000
namespace My
open PySem L2 NdefX StX
abbrev s_law_due : Stmt := top 29
theorem sc_law_due : FnScope ["_law_a", "_law_b", "_law_pairs_here", "_law_moves_here", "_law_far", "_law_turn", "_law_found", "_law_at", "_law_near", "_law_move", "_law_row_here", "_law_fitting"] ["_law_a", "_law_b", "_law_pairs_here"] (defScope s_law_due) := ⟨rfl, rfl, rfl, by decide +kernel, rfl, by decide +kernel, by decide +kernel⟩
def WDu (P : Program) (w : World) (c : Nat) (a b : List Cst) (G : List S2) (la lb lp md fd : Addr) (Hm : Hp) (j : Nat) (σ : L2.St) (H' : Hp) : Prop := ∃ (F : List (S2 × Nat)) (c5 c6 c7 c8 : Option V), σ = [some (.ref la), some (.ref lb), some (.ref lp), some (.ref md), some (.ref fd), c5, c6, c7, c8, none, none, none] ∧ FarAt P w H' fd F ∧ FarOk c a b G j F ∧ (0, 0) ∉ F.map (·.1) ∧ j ≤ F.length ∧ Kp [] Hm H'
def PDu (P : Program) (w : World) (c : Nat) (a b : List Cst) (G : List S2) (la lb lp md fd : Addr) (Hm : Hp) (σ : L2.St) (H' : Hp) : Prop := ∃ (F : List (S2 × Nat)) (T : Nat) (c5 c6 c7 c8 : Option V), σ = [some (.ref la), some (.ref lb), some (.ref lp), some (.ref md), some (.ref fd), c5, c6, c7, c8, none, none, none] ∧ FarAt P w H' fd F ∧ FarOk c a b G T F ∧ ((0, 0) ∈ F.map (·.1) ∨ ∀ w, ¬ BO.Par (mvC c a) (stC a b) (0, 0) w) ∧ T ≤ 145 ∧ Kp [] Hm H'
def WDk (P : Program) (w : World) (c : Nat) (a b : List Cst) (G : List S2) (F : List (S2 × Nat)) (la lb lp md fd ql : Addr) (xs : List NE) (Hs : Hp) (j : Nat) (od : Obj) (i : Nat) (σ : L2.St) (H' : Hp) : Prop := ∃ (us : List V) (c7 c8 : Option V), σ = [some (.ref la), some (.ref lb), some (.ref lp), some (.ref md), some (.ref fd), some (.int ((1 + j : Nat) : Int)), some (.ref ql), c7, c8, none, none, none] ∧ H' ql = some (.lst us) ∧ Rw (TI H') us (((G.take i).filter (fndP c a b F (j + 1))).map fun s => [s.1, s.2]) ∧ Kp [] (upd Hs md (.frz od (DnO P w md xs))) H'
def WDf (P : Program) (w : World) (F : List (S2 × Nat)) (fs : List S2) (la lb lp md fd ql : Addr) (us : List V) (Hm : Hp) (j : Nat) (i : Nat) (σ : L2.St) (H' : Hp) : Prop := ∃ (c7 c8 : Option V), σ = [some (.ref la), some (.ref lb), some (.ref lp), some (.ref md), some (.ref fd), some (.int ((1 + j : Nat) : Int)), some (.ref ql), c7, c8, none, none, none] ∧ H' ql = some (.lst us) ∧ Rw (TI H') us (fs.map fun s => [s.1, s.2]) ∧ FarAt P w H' fd (F ++ (fs.take i).map fun s => (s, j + 1)) ∧ Kp [] Hm H'
def WDg (c : Nat) (a b : List Cst) (G : List S2) (T : Nat) (la lb lp md fd rl : Addr) (H3 : Hp) (j : Nat) (σ : L2.St) (H' : Hp) : Prop := ∃ (u : List Pr) (us : List V) (c5 c6 c7 c8 c11 : Option V), σ = [some (.ref la), some (.ref lb), some (.ref lp), some (.ref md), some (.ref fd), c5, c6, c7, c8, none, some (.ref rl), c11] ∧ H' rl = some (.lst us) ∧ Rw (PrAt H') us u ∧ u.length = j ∧ Kp [] H3 H' ∧
  (j < T → ∃ (x : S2) (g : Addr), c7 = some (.ref g) ∧ H' g = some (.tup [.int x.1, .int x.2]) ∧ x ∈ G ∧ BO.Dst (mvC c a) (stC a b) x (T - j) ∧ ∀ w', BO.Grd (mvC c a) (stC a b) x (T - j) w' → BO.Grd (mvC c a) (stC a b) (0, 0) T (u ++ w')) ∧ (j = T → BO.Grd (mvC c a) (stC a b) (0, 0) T u)
theorem forDown {ta : TA} {g : TG} {tb : TS} {D : Ends} {σ : L2.St} {H : Hp} (m : Nat) (hm : m ≤ 100000) (Pv : Nat → L2.St → Hp → Prop) (ht : ∀ R : List V → Hp → Prop, (∀ H1, Kp [] H H1 → R [.int (m : Nat), .int 0, .int (-1)] H1) → ta σ H R) (h0 : ∀ H1, Kp [] H H1 → Pv 0 σ H1)
    (step : ∀ j σ H, j < m → Pv j σ H → g (.int ((m - j : Nat) : Int)) σ H fun σ2 H2 => tb { D with nx := Pv (j + 1), ct := Pv (j + 1), bk := D.nx } σ2 H2) (fin : ∀ σ H, Pv m σ H → D.nx σ H) : tFor (iRng3 ta) g tb D σ H :=
  ht _ fun H1 k1 => ⟨(m : Nat), 0, -1, ((m : Int) - 0).toNat, rfl, RgC.neg (by omega) (by omega) (by omega) (by omega), for_rangeC Pv (h0 H1 k1) (fun j σ H hj p => by
    have e : ((m : Nat) : Int) + (j : Nat) * (-1) = ((m - j : Nat) : Int) := by omega
    rw [e]
    exact step j σ H (by omega) p) fun σ H p => fin σ H (by rw [show ((m : Int) - 0).toNat = m by omega] at p; exact p)⟩
theorem upd_comm {H : Hp} {p q : Addr} {x y : HO} (h : p ≠ q) : upd (upd H p x) q y = upd (upd H q y) p x := by
  funext z
  by_cases h1 : z = p
  · subst h1
    rw [upd_ne h, upd_same, upd_same]
  · by_cases h2 : z = q
    · subst h2
      rw [upd_same, upd_ne h1, upd_same]
    · rw [upd_ne h2, upd_ne h1, upd_ne h1, upd_ne h2]
theorem for_both {wi : L2.TI} {g : TG} {tb : TS} {D : Ends} {σ : L2.St} {H : Hp} (Pv : L2.St → Hp → Prop) (h : ∀ Dn : Ends, (∀ σ' H', Pv σ' H' → Dn.nx σ' H') → tFor wi g tb Dn σ H) (h2 : ∀ σ' H', Pv σ' H' → D.nx σ' H') : tFor wi g tb D σ H := h D h2
section
variable {P : Program} {w : World} {K : PySem.W.Frag} {mg : Str → Option Value} {base : Heap} {t1 t2 : Tok}
def spDue : Sp := fun vs H Q _ => ∃ (la lb lp : Addr) (c : Nat) (a b : List Cst) (ua ub up : List V), vs = [.ref la, .ref lb, .ref lp] ∧ H la = some (.lst ua) ∧ Rw (TSt H) ua a ∧ H lb = some (.lst ub) ∧ Rw (TSt H) ub b ∧ H lp = some (.lst up) ∧ Rw (PrAt H) up (psC c) ∧ GoodC (c : Nat) a ∧ GoodC (c : Nat) b ∧
  (∀ r l us H', BO.Least (ιP c) (mvC c a) (stC a b) (0, 0) r → r.length ≤ 200 → H l = none → H' l = some (.lst us) → Rw (PrAt H') us r → Kp [] H H' → Q (.ref l) H') ∧ ((∀ w, ¬ BO.Par (mvC c a) (stC a b) (0, 0) w) → ∀ H', Kp [] H H' → Q .non H')
theorem ok_law_due {f : Addr} {fd : FuncData} (D : Df K mg "_law_due" s_law_due ["_law_a", "_law_b", "_law_pairs_here"] f fd) (T : BtW mg) {fm : Addr} {fdm : FuncData} (D_law_moves : Df K mg "_law_moves" s_law_moves ["_law_a", "_law_b", "_law_pairs_here"] fm fdm) (G_law_moves : FnOk P w K mg base CX0 2 fm fdm ["_law_a", "_law_b", "_law_pairs_here"] (spMoves P w)) {fe : Addr} {fde : FuncData} (D_law_ends : Df K mg "_law_ends" s_law_ends ["_law_move", "_law_far", "_law_turn"] fe fde) (G_law_ends : FnOk P w K mg base CX0 1 fe fde ["_law_move", "_law_far", "_law_turn"] (spEnds P w)) : FnOk P w K mg base CX0 3 f fd ["_law_a", "_law_b", "_law_pairs_here"] spDue := by
  refine D.F.ok sc_law_due (fun vs H Q E h => ?_) (fun cdv A outer s H vs Q E hr h => ?_)
  · obtain ⟨_, _, _, _, _, _, _, _, _, rfl, _⟩ := h
    rfl
  · obtain ⟨la, lb, lp, c, a, b, ua, ub, up, rfl, hla, hua, hlb, hub, hlp, hup, gA, gB, q1, q2⟩ := h
    have hu := hu_of hr
    have c1 : 1 ≤ c := by have := gA.1; omega
    have c3 : c ≤ 3 := by have := gA.2.1; omega
    have aLen := gA.2.2.2.1
    have bLen := gB.2.2.2.1
    refine ⟨_, (pss_cons (ps_set (i := 3) sc_law_due.nd rfl (Or.inl rfl) (pe_call G_law_moves (hr.mono (by decide)) rfl D_law_moves.g D_law_moves.F.kp D_law_moves.b .nil pass0 (pa_cons (pv 0) (pa_cons (pv 1) (pa_cons (pv 2) pa_nil)))))
      (pss_cons (ps_set (i := 4) sc_law_due.nd rfl (Or.inr rfl) pe_dnewK)
      (pss_cons (ps_for PassesOwn.never rfl (pi_range2 rfl T.b_range (pa_cons pe_int (pa_cons (pe_op op_add (pe_callB (id := "len") (r := rLenN P w) call_lenN (by rfl) T.b_len PySem.boot_len (pa_cons (pv 3) pa_nil)) pe_int) pa_nil))) (pg_name (i := 5) sc_law_due.nd rfl (Or.inr rfl)) (pss_cons (ps_set (i := 6) sc_law_due.nd rfl (Or.inl rfl) (pe_lst pa_nil))
      (pss_cons (ps_lock (ps_for PassesOwn.never rfl (pi_keysN (pv 3)) (pg_name (i := 7) sc_law_due.nd rfl (Or.inl rfl)) (pss_cons (ps_setLc (i := 8) (own := [("_law_move", 9)]) (g := (gName 9)) rfl sc_law_due.nd rfl rfl (sw_true rfl rfl rfl (by decide +kernel)) (pi_list (pe_ngetF hr.units (pv 3) (pv 7) (fun _ _ => rfl))) (blkOk_by (N := ["_law_a", "_law_b", "_law_pairs_here", "_law_moves_here", "_law_far", "_law_turn", "_law_found", "_law_at", "_law_near", "_law_move", "_law_row_here", "_law_fitting"]) (sc := defScope s_law_due) (by decide +kernel)) (fun _ _ _ _ _ => (pg_name (i := 9) sc_law_due.nd rfl (Or.inl rfl))) (fun _ _ _ _ _ => (pts_one (pt_val (pe_call G_law_ends (hr.mono (by decide)) rfl D_law_ends.g D_law_ends.F.kp D_law_ends.b .nil pass0 (pa_cons (pv 9) (pa_cons (pv 4) (pa_cons (pv 5) pa_nil))))))) (fun _ _ _ _ _ => (pv 9)))
      (pss_one (ps_if (PW.pt (pw_and (pt_cmp (pc_nnotin hr.units (pv 7) (pv 4))) (pw_and1 (pt_cmpR op_gt (pe_callB (id := "len") (r := Evl.rLenS K) call_len_seq (by rfl) T.b_len PySem.boot_len (pa_cons (pv 8) pa_nil)) pe_int (nomark _))))) (pss_one (ps_expr (pe_bm PySem.F.plainAttrs_list PySem.F.slot_list_append PySem.F.type_list_append mt_append (pv 6) (pa_cons (pv 7) pa_nil)))) pss_nil)))))
      (pss_cons (ps_for PassesOwn.never rfl (pi_list (pv 6)) (pg_name (i := 7) sc_law_due.nd rfl (Or.inl rfl)) (pss_one (ps_nput hr.units (pv 4) (pv 7) (pv 5) rfl)))
      (pss_one (ps_if (PW.pt (pw_or (pt_cmpR op_eq (pe_callB (id := "len") (r := Evl.rLenS K) call_len_seq (by rfl) T.b_len PySem.boot_len (pa_cons (pv 6) pa_nil)) pe_int (nomark _)) (pw_or1 (pt_cmp (pc_nin hr.units (pe_tup (pa_cons pe_int (pa_cons pe_int pa_nil))) (pv 4)))))) (pss_one ps_break) pss_nil))))))
      (pss_cons (ps_if (pt_cmp (pc_nnotin hr.units (pe_tup (pa_cons pe_int (pa_cons pe_int pa_nil))) (pv 4))) (pss_one (ps_ret pe_non)) pss_nil)
      (pss_cons (ps_set (i := 10) sc_law_due.nd rfl (Or.inl rfl) (pe_lst pa_nil))
      (pss_cons (ps_set (i := 7) sc_law_due.nd rfl (Or.inl rfl) (pe_tup (pa_cons pe_int (pa_cons pe_int pa_nil))))
      (pss_cons (ps_for PassesOwn.never rfl (pi_range3 rfl T.b_range (pa_cons (pe_nget hr.units (pv 4) (pe_tup (pa_cons pe_int (pa_cons pe_int pa_nil))) (fun _ _ => rfl)) (pa_cons pe_int (pa_cons (pe_un un_neg pe_int) pa_nil)))) (pg_name (i := 5) sc_law_due.nd rfl (Or.inr rfl)) (pss_cons (ps_setLc (i := 11) (own := [("_law_move", 9)]) (g := (gName 9)) rfl sc_law_due.nd rfl rfl (sw_true rfl rfl rfl (by decide +kernel)) (pi_list (pe_nget hr.units (pv 3) (pv 7) (fun _ _ => rfl))) (blkOk_by (N := ["_law_a", "_law_b", "_law_pairs_here", "_law_moves_here", "_law_far", "_law_turn", "_law_found", "_law_at", "_law_near", "_law_move", "_law_row_here", "_law_fitting"]) (sc := defScope s_law_due) (by decide +kernel)) (fun _ _ _ _ _ => (pg_name (i := 9) sc_law_due.nd rfl (Or.inl rfl))) (fun _ _ _ _ _ => (pts_one (pt_val (pe_call G_law_ends (hr.mono (by decide)) rfl D_law_ends.g D_law_ends.F.kp D_law_ends.b .nil pass0 (pa_cons (pv 9) (pa_cons (pv 4) (pa_cons (pv 5) pa_nil))))))) (fun _ _ _ _ _ => (pv 9)))
      (pss_cons (ps_expr (pe_bm PySem.F.plainAttrs_list PySem.F.slot_list_append PySem.F.type_list_append mt_append (pv 10) (pa_cons (pe_ix (r := rIxT K) ix_tup (pe_ix (r := rIxL K) ix_list (pv 11) pe_int (fun _ _ => rfl)) pe_int (fun _ _ => rfl)) pa_nil)))
      (pss_one (ps_set (i := 7) sc_law_due.nd rfl (Or.inl rfl) (pe_ix (r := rIxT K) ix_tup (pe_ix (r := rIxL K) ix_list (pv 11) pe_int (fun _ _ => rfl)) pe_int (fun _ _ => rfl)))))))
      (pss_one (ps_ret (pv 10)))))))))), ?_⟩
    try simp (maxSteps := 1000000) only [tSeq, tIfS, tTest, tOp, tUn, tCB, tCons, tNil, tVar, tC, rI0, rI, rU, rEq, rNe, tRet, tRetN, tAsg, gName, gSub, tBM, tBM0, tNext, tB, tNot, tAnd, tOr, tIf, tCall, tDrop, tBreak, tCont, L2.start, tDGet, sDPut, tTup, tLst, tDNewK, tRevL, rCat, rAppend, rPop, rSetL, tAndV, tOrV, tNotV, tSl, tPart, tNoPart, tM1, gTup, gCons, gNil, cxK, cxnK, List.map_cons, List.map_nil, List.length_cons, List.length_nil, List.replicate, List.cons_append, List.nil_append, List.append_nil, List.set_cons_zero, List.set_cons_succ, List.getElem?_cons_zero, List.getElem?_cons_succ, Option.some.injEq, V.ref.injEq, V.int.injEq, V.str.injEq, V.bl.injEq, V.ty.injEq, exists_eq_left', exists_eq_left, exists_and_left, List.cons.injEq, and_true, true_and, sc_ii, sc_ss, sc_bb, sc_ni, sc_in, sc_is, sc_si, sc_nn, decide_true, decide_false, reduceCtorEq, Bool.false_eq_true, if_true, if_false, ite_true, ite_false, exists_const, eq_self, false_and, and_false, or_false, false_or, exists_false, Evl.rLenS, rSum, wipe, tYes, exists_eq, exists_eq', rIxL, rIxT, rIxS, exists_and_right, gt_iff_lt, not_true_eq_false, not_false_eq_true, Bool.not_true, Bool.not_false, decide_eq_true_eq, Nat.reduceSub, Nat.reduceAdd, List.append_assoc, tChain, tDIn, tDNotIn, sDDel, tAug, ipI, rInt1_int, rInt1_bl]
    refine ⟨la, lb, lp, c, a, b, ua, ub, up, rfl, hla, hua, hlb, hub, hlp, hup, gA, gB, fun md G Hm hMD km fd' nfd => ?_⟩
    obtain ⟨Gnd, G0, Gin, Gcl, ents, en1, en2, en3⟩ := id hMD
    have g144 : G.length ≤ 144 := by
      have := nodup_lenP Gnd (m := allR a b) fun x hx => inR_all (Gin x hx)
      rw [allR_len] at this
      have := Nat.mul_le_mul aLen bLen
      omega
    have el : ents.length = G.length := by
      have := congrArg List.length en1
      simpa using this
    obtain ⟨xs, hmd, exs, nkx⟩ : ∃ xs, Hm md = some (DnO P w md xs) ∧ xs.map (fun x => (x.1, x.2.2)) = (ents.map fun e => (keyI e.1, V.ref e.2)) ∧ NKeys Hm xs := by
      rcases en2 with ⟨_, e⟩ | h
      · have := congrArg List.length e
        rw [List.length_map, el] at this
        rw [List.length_eq_zero_iff.mp this] at G0
        cases G0
      · exact h
    have xl : xs.length = G.length := by
      have := congrArg List.length exs
      rw [List.length_map, List.length_map, el] at this
      exact this
    have ndk : ((ents.map fun e => (keyI e.1, V.ref e.2)).map (·.1)).Nodup := by
      have : (ents.map fun e => (keyI e.1, V.ref e.2)).map (·.1) = G.map keyI := by rw [← en1, List.map_map, List.map_map]; rfl
      rw [this]
      exact List.pairwise_map.mpr (Gnd.imp fun h z => h (keyI_inj z))
    have ent : ∀ {i : Nat} {e : NE}, xs[i]? = some e → ∃ s l, G[i]? = some s ∧ ents[i]? = some (s, l) ∧ e.1 = keyI s ∧ e.2.2 = .ref l ∧ valN (xs.map fun x => (x.1, x.2.2)) (keyI s) = some (.ref l) := fun {i e} ei => by
      have h1 : (xs.map fun x => (x.1, x.2.2))[i]? = some (e.1, e.2.2) := by rw [List.getElem?_map, ei]; rfl
      rw [exs, List.getElem?_map] at h1
      cases e1 : ents[i]? with
      | none => rw [e1] at h1; cases h1
      | some p =>
        rw [e1] at h1
        have h2 := Option.some.inj h1
        refine ⟨p.1, p.2, by rw [← en1, List.getElem?_map, e1]; rfl, rfl, (congrArg Prod.fst h2).symm, (congrArg Prod.snd h2).symm, ?_⟩
        rw [exs]
        exact valN_nd ndk (i := i) (by rw [List.getElem?_map, e1]; rfl)
    have mdf : md ≠ fd' := ne_of_none hmd nfd
    have kf0 : Kp [] Hm (upd Hm fd' (.dK [])) := Kp.new nfd
    have hF0 : FarAt P w (upd Hm fd' (.dK [])) fd' [] := .inl ⟨upd_same, rfl⟩
    generalize upd Hm fd' (.dK []) = H1 at kf0 hF0 ⊢
    have hF00 : FarOk c a b G 0 [] := ⟨by simp, (fun e he => nomatch he), fun s hs k hk hd => by have := hd.pos; omega⟩
    refine for_both (PDu P w c a b G la lb lp md fd' Hm) (fun Dn hDn => ?_) fun σ H2 h => ?_
    · refine forN2 1 (G.length + 2) (by decide) (by omega) (WDu P w c a b G la lb lp md fd' Hm) (fun R h => ?_) (fun H2 k2 => ⟨[], _, _, _, _, rfl, dn_kp hF0 k2, hF00, by simp, Nat.zero_le _, kf0.trans k2⟩) ?_ ?_
      · try simp (maxSteps := 1000000) only [tSeq, tIfS, tTest, tOp, tUn, tCB, tCons, tNil, tVar, tC, rI0, rI, rU, rEq, rNe, tRet, tRetN, tAsg, gName, gSub, tBM, tBM0, tNext, tB, tNot, tAnd, tOr, tIf, tCall, tDrop, tBreak, tCont, L2.start, tDGet, sDPut, tTup, tLst, tDNewK, tRevL, rCat, rAppend, rPop, rSetL, tAndV, tOrV, tNotV, tSl, tPart, tNoPart, tM1, gTup, gCons, gNil, cxK, cxnK, List.map_cons, List.map_nil, List.length_cons, List.length_nil, List.replicate, List.cons_append, List.nil_append, List.append_nil, List.set_cons_zero, List.set_cons_succ, List.getElem?_cons_zero, List.getElem?_cons_succ, Option.some.injEq, V.ref.injEq, V.int.injEq, V.str.injEq, V.bl.injEq, V.ty.injEq, exists_eq_left', exists_eq_left, exists_and_left, List.cons.injEq, and_true, true_and, sc_ii, sc_ss, sc_bb, sc_ni, sc_in, sc_is, sc_si, sc_nn, decide_true, decide_false, reduceCtorEq, Bool.false_eq_true, if_true, if_false, ite_true, ite_false, exists_const, eq_self, false_and, and_false, or_false, false_or, exists_false, Evl.rLenS, rSum, wipe, tYes, exists_eq, exists_eq', rIxL, rIxT, rIxS, exists_and_right, gt_iff_lt, not_true_eq_false, not_false_eq_true, Bool.not_true, Bool.not_false, decide_eq_true_eq, Nat.reduceSub, Nat.reduceAdd, List.append_assoc, tChain, tDIn, tDNotIn, sDDel, tAug, ipI, rInt1_int, rInt1_bl]
        refine ⟨md, _, rfl, dn_kp en2 kf0, _, rfl, ?_⟩
        rw [List.length_map, el]
        exact h _ (Kp.refl _ _)
      · rintro j σ H2 hj ⟨F, c5, c6, c7, c8, rfl, hF, hFo, h00, jl, k2⟩
        try simp (maxSteps := 1000000) only [tSeq, tIfS, tTest, tOp, tUn, tCB, tCons, tNil, tVar, tC, rI0, rI, rU, rEq, rNe, tRet, tRetN, tAsg, gName, gSub, tBM, tBM0, tNext, tB, tNot, tAnd, tOr, tIf, tCall, tDrop, tBreak, tCont, L2.start, tDGet, sDPut, tTup, tLst, tDNewK, tRevL, rCat, rAppend, rPop, rSetL, tAndV, tOrV, tNotV, tSl, tPart, tNoPart, tM1, gTup, gCons, gNil, cxK, cxnK, List.map_cons, List.map_nil, List.length_cons, List.length_nil, List.replicate, List.cons_append, List.nil_append, List.append_nil, List.set_cons_zero, List.set_cons_succ, List.getElem?_cons_zero, List.getElem?_cons_succ, Option.some.injEq, V.ref.injEq, V.int.injEq, V.str.injEq, V.bl.injEq, V.ty.injEq, exists_eq_left', exists_eq_left, exists_and_left, List.cons.injEq, and_true, true_and, sc_ii, sc_ss, sc_bb, sc_ni, sc_in, sc_is, sc_si, sc_nn, decide_true, decide_false, reduceCtorEq, Bool.false_eq_true, if_true, if_false, ite_true, ite_false, exists_const, eq_self, false_and, and_false, or_false, false_or, exists_false, Evl.rLenS, rSum, wipe, tYes, exists_eq, exists_eq', rIxL, rIxT, rIxS, exists_and_right, gt_iff_lt, not_true_eq_false, not_false_eq_true, Bool.not_true, Bool.not_false, decide_eq_true_eq, Nat.reduceSub, Nat.reduceAdd, List.append_assoc, tChain, tDIn, tDNotIn, sDDel, tAug, ipI, rInt1_int, rInt1_bl]
        refine ⟨Nat.zero_le _, fun ql nql => ?_⟩
        have hmd2 := k2 _ _ not0 hmd
        have nqm : ql ≠ md := (ne_of_none hmd2 nql).symm
        have nkx2 : NKeys H2 xs := fun x hx => ⟨(nkx x hx).1.tp fun b ys e => k2 _ _ not0 e, (nkx x hx).2⟩
        have nqlm := k2.free0 nql
        refine forKeysN (P := P) (w := w) (i := 3) (xs := xs) rfl (by rw [upd_ne nqm.symm]; exact hmd2) (WDk P w c a b G F la lb lp md fd' ql xs H2 j) (fun od => ?_) (fun od i σ H' h => ?_) (fun od i e σ H' ei h => ?_) fun od σ H' h => ?_
        · rw [upd_comm nqm]
          exact ⟨[], _, _, rfl, upd_same, .nil, Kp.new (by rw [upd_ne nqm]; exact nql)⟩
        · obtain ⟨_, _, _, _, _, _, k⟩ := h
          exact k _ _ not0 upd_same
        · obtain ⟨us, c7', c8', rfl, hql, hus, k3⟩ := h
          obtain ⟨s, l, eG, ee, e1, e2, ev⟩ := ent ei
          have hfz : H' md = some (.frz od (DnO P w md xs)) := k3 _ _ not0 upd_same
          have nm : ∀ {x : Addr} {ys : List V}, H2 x = some (.tup ys) → H' x = some (.tup ys) := fun {x ys} h => k3 _ _ not0 (by rw [upd_ne (fun z => by rw [z, hmd2] at h; cases h)]; exact h)
          have tp3 : Tp H2 H' := fun x ys h => nm h
          obtain ⟨rus, hrl, hrr⟩ := en3 _ (List.mem_of_getElem? ee)
          have hrl2 := k2 _ _ not0 hrl
          have hrl3 : H' l = some (.lst rus) := k3 _ _ not0 (by rw [upd_ne (fun z => by rw [z, hmd2] at hrl2; cases hrl2)]; exact hrl2)
          have hrr3 : Rw (MvAt H') rus (fullM c a b s) := hrr.mono fun _ _ z => z.tp (k2.tps.trans tp3)
          have nkx3 : NKeys H' xs := fun x hx => ⟨(nkx2 x hx).1.tp fun b ys e => nm e, (nkx2 x hx).2⟩
          have key := nkx3 e (List.mem_of_getElem? ei)
          rw [e1] at key
          have hF3 : FarAt P w H' fd' F := by
            rcases hF with ⟨h1, h2⟩ | ⟨ys, h1, h2, h3⟩
            · exact .inl ⟨k3 _ _ not0 (by rw [upd_ne (fun z => by rw [z, hmd2] at h1; cases h1)]; exact h1), h2⟩
            · refine .inr ⟨ys, k3 _ _ not0 (by rw [upd_ne mdf.symm]; exact h1), h2, fun x hx => ⟨(h3 x hx).1.tp fun b ys e => nm e, (h3 x hx).2⟩⟩
          have flen := full_len (a := a) (b := b) c1 c3 s
          try simp (maxSteps := 1000000) only [tSeq, tIfS, tTest, tOp, tUn, tCB, tCons, tNil, tVar, tC, rI0, rI, rU, rEq, rNe, tRet, tRetN, tAsg, gName, gSub, tBM, tBM0, tNext, tB, tNot, tAnd, tOr, tIf, tCall, tDrop, tBreak, tCont, L2.start, tDGet, sDPut, tTup, tLst, tDNewK, tRevL, rCat, rAppend, rPop, rSetL, tAndV, tOrV, tNotV, tSl, tPart, tNoPart, tM1, gTup, gCons, gNil, cxK, cxnK, List.map_cons, List.map_nil, List.length_cons, List.length_nil, List.replicate, List.cons_append, List.nil_append, List.append_nil, List.set_cons_zero, List.set_cons_succ, List.getElem?_cons_zero, List.getElem?_cons_succ, Option.some.injEq, V.ref.injEq, V.int.injEq, V.str.injEq, V.bl.injEq, V.ty.injEq, exists_eq_left', exists_eq_left, exists_and_left, List.cons.injEq, and_true, true_and, sc_ii, sc_ss, sc_bb, sc_ni, sc_in, sc_is, sc_si, sc_nn, decide_true, decide_false, reduceCtorEq, Bool.false_eq_true, if_true, if_false, ite_true, ite_false, exists_const, eq_self, false_and, and_false, or_false, false_or, exists_false, Evl.rLenS, rSum, wipe, tYes, exists_eq, exists_eq', rIxL, rIxT, rIxS, exists_and_right, gt_iff_lt, not_true_eq_false, not_false_eq_true, Bool.not_true, Bool.not_false, decide_eq_true_eq, Nat.reduceSub, Nat.reduceAdd, List.append_assoc, tChain, tDIn, tDNotIn, sDDel, tAug, ipI, rInt1_int, rInt1_bl]
          refine lcG (R := MvAt) (R2 := MvAt) (fun _ _ _ _ t h => h.tp t) (fun _ _ _ _ t h => h.tp t) (fun m => endB F (j + 1) m.2) id (src_list (fun R q' => ⟨_, rfl, _, rfl, md, od, xs, keyI s, .ref l, rfl, ⟨hfz, nkx3⟩, ⟨_, rfl, key.1, key.2⟩, ev, q'⟩) (sq_l hrl3)) hrr3 (by omega) (fun v m H5 N N0 hm hv k5 hN hN0 => ?_) fun Dl us5 H5 nD hD hrw k5 => ?_
          · refine ⟨by simp [wipe], ?_⟩
            try simp (maxSteps := 1000000) only [tSeq, tIfS, tTest, tOp, tUn, tCB, tCons, tNil, tVar, tC, rI0, rI, rU, rEq, rNe, tRet, tRetN, tAsg, gName, gSub, tBM, tBM0, tNext, tB, tNot, tAnd, tOr, tIf, tCall, tDrop, tBreak, tCont, L2.start, tDGet, sDPut, tTup, tLst, tDNewK, tRevL, rCat, rAppend, rPop, rSetL, tAndV, tOrV, tNotV, tSl, tPart, tNoPart, tM1, gTup, gCons, gNil, cxK, cxnK, List.map_cons, List.map_nil, List.length_cons, List.length_nil, List.replicate, List.cons_append, List.nil_append, List.append_nil, List.set_cons_zero, List.set_cons_succ, List.getElem?_cons_zero, List.getElem?_cons_succ, Option.some.injEq, V.ref.injEq, V.int.injEq, V.str.injEq, V.bl.injEq, V.ty.injEq, exists_eq_left', exists_eq_left, exists_and_left, List.cons.injEq, and_true, true_and, sc_ii, sc_ss, sc_bb, sc_ni, sc_in, sc_is, sc_si, sc_nn, decide_true, decide_false, reduceCtorEq, Bool.false_eq_true, if_true, if_false, ite_true, ite_false, exists_const, eq_self, false_and, and_false, or_false, false_or, exists_false, Evl.rLenS, rSum, wipe, tYes, exists_eq, exists_eq', rIxL, rIxT, rIxS, exists_and_right, gt_iff_lt, not_true_eq_false, not_false_eq_true, Bool.not_true, Bool.not_false, decide_eq_true_eq, Nat.reduceSub, Nat.reduceAdd, List.append_assoc, tChain, tDIn, tDNotIn, sDDel, tAug, ipI, rInt1_int, rInt1_bl]
            refine ⟨v, fd', j + 1, m, F, by rw [Nat.add_comm], hv, dn_kp hF3 k5, fun H6 k6 => ⟨_, rfl, ?_⟩⟩
            by_cases hb : endB F (j + 1) m.2 = true
            · rw [if_pos hb]
              exact hN hb _ _ (hv.tp k6.tps) k6
            · rw [if_neg hb]
              exact hN0 (by simpa using hb) _ k6
          · rw [List.map_id] at hrw
            try simp (maxSteps := 1000000) only [tSeq, tIfS, tTest, tOp, tUn, tCB, tCons, tNil, tVar, tC, rI0, rI, rU, rEq, rNe, tRet, tRetN, tAsg, gName, gSub, tBM, tBM0, tNext, tB, tNot, tAnd, tOr, tIf, tCall, tDrop, tBreak, tCont, L2.start, tDGet, sDPut, tTup, tLst, tDNewK, tRevL, rCat, rAppend, rPop, rSetL, tAndV, tOrV, tNotV, tSl, tPart, tNoPart, tM1, gTup, gCons, gNil, cxK, cxnK, List.map_cons, List.map_nil, List.length_cons, List.length_nil, List.replicate, List.cons_append, List.nil_append, List.append_nil, List.set_cons_zero, List.set_cons_succ, List.getElem?_cons_zero, List.getElem?_cons_succ, Option.some.injEq, V.ref.injEq, V.int.injEq, V.str.injEq, V.bl.injEq, V.ty.injEq, exists_eq_left', exists_eq_left, exists_and_left, List.cons.injEq, and_true, true_and, sc_ii, sc_ss, sc_bb, sc_ni, sc_in, sc_is, sc_si, sc_nn, decide_true, decide_false, reduceCtorEq, Bool.false_eq_true, if_true, if_false, ite_true, ite_false, exists_const, eq_self, false_and, and_false, or_false, false_or, exists_false, Evl.rLenS, rSum, wipe, tYes, exists_eq, exists_eq', rIxL, rIxT, rIxS, exists_and_right, gt_iff_lt, not_true_eq_false, not_false_eq_true, Bool.not_true, Bool.not_false, decide_eq_true_eq, Nat.reduceSub, Nat.reduceAdd, List.append_assoc, tChain, tDIn, tDNotIn, sDDel, tAug, ipI, rInt1_int, rInt1_bl, tNNotIn]
            have key5 : NKey H5 (.ref e.2.1) (keyI s) := ⟨_, rfl, key.1.tp fun b ys e => k5 _ _ not0 e, key.2⟩
            refine ⟨_, dn_kp hF3 k5, keyI s, key5, ?_⟩
            have mk : keyI s ∈ (F.map fun e => (keyI e.1, V.int (e.2 : Nat))).map (·.1) ↔ s ∈ F.map (·.1) := by
              rw [List.map_map]
              constructor
              · intro h
                obtain ⟨e', he', ee⟩ := List.mem_map.mp h
                exact List.mem_map.mpr ⟨e', he', keyI_inj ee⟩
              · intro h
                obtain ⟨e', he', ee⟩ := List.mem_map.mp h
                exact List.mem_map.mpr ⟨e', he', by show keyI e'.1 = _; rw [ee]⟩
            have lql : ((G.take i).filter (fndP c a b F (j + 1))).length ≤ 144 := by
              have := List.length_filter_le (fndP c a b F (j + 1)) (G.take i)
              rw [List.length_take] at this
              omega
            have stay : fndP c a b F (j + 1) s = false → WDk P w c a b G F la lb lp md fd' ql xs H2 j od (i + 1) [some (V.ref la), some (V.ref lb), some (V.ref lp), some (V.ref md), some (V.ref fd'), some (V.int ((1 + j : Nat) : Int)), some (V.ref ql), some (V.ref e.2.1), some (V.ref Dl), none, none, none] H5 := fun hp => by
              refine ⟨us, _, _, rfl, k5 _ _ not0 hql, ?_, k3.trans k5⟩
              rw [take_snoc eG, List.filter_append, List.filter_cons_of_neg (by rw [hp]; simp), List.filter_nil, List.append_nil]
              exact hus.mono fun _ _ z => z.tp k5.tps
            rw [valN_isK]
            by_cases hsF : s ∈ F.map (·.1)
            · rw [decide_eq_true (mk.mpr hsF), if_neg (by simp)]
              refine stay ?_
              unfold fndP
              rw [decide_eq_true hsF]
              rfl
            · rw [decide_eq_false (fun h => hsF (mk.mp h)), if_pos (by simp)]
              refine ⟨_, .inl (sq_l hD), ?_⟩
              rw [hrw.len]
              by_cases hn : (fullM c a b s).any (fun m => endB F (j + 1) m.2) = true
              · have hpos : 0 < ((fullM c a b s).filter fun m => endB F (j + 1) m.2).length := by
                  obtain ⟨m, hm, hb⟩ := List.any_eq_true.mp hn
                  exact List.length_pos_of_mem (List.mem_filter.mpr ⟨hm, hb⟩)
                rw [if_pos (by omega)]
                have hql5 := k5 _ _ not0 hql
                refine ⟨.inl ⟨rfl, _, sq_l hql5⟩, us, hql5, by rw [hus.len, List.length_map]; exact smallL (by omega), us ++ [.ref e.2.1], _, _, rfl, upd_same, ?_, (k3.trans k5).wr (by rw [upd_ne nqm]; exact nql)⟩
                have hp : fndP c a b F (j + 1) s = true := by
                  unfold fndP
                  rw [decide_eq_false hsF, hn]
                  rfl
                have tp : Tp H5 (upd H5 ql (.lst (us ++ [.ref e.2.1]))) := (Tp.refl _).putL hql5
                rw [take_snoc eG, List.filter_append, List.filter_cons_of_pos hp, List.filter_nil, List.map_append]
                obtain ⟨tt, ett, htt⟩ := nk_tup (key.1.tp fun b ys e => k5 _ _ not0 e)
                exact (hus.mono fun _ _ z => z.tp (k5.tps.trans tp)).snoc ⟨tt, ett, tp _ _ htt⟩
              · have h0 : ((fullM c a b s).filter fun m => endB F (j + 1) m.2) = [] := by
                  rw [List.filter_eq_nil_iff]
                  exact fun m hm hb => hn (List.any_eq_true.mpr ⟨m, hm, hb⟩)
                rw [h0, if_neg (by simp)]
                refine stay ?_
                unfold fndP
                rw [Bool.not_eq_true] at hn
                rw [hn, Bool.and_false]
        · obtain ⟨us, c7', c8', rfl, hql, hus, k3⟩ := h
          have hfz : H' md = some (.frz od (DnO P w md xs)) := k3 _ _ not0 upd_same
          have k4 : Kp [] H2 (upd H' md (DnO P w md xs)) := Kp.unlock hmd2 k3
          have hql4 : (upd H' md (DnO P w md xs)) ql = some (.lst us) := by rw [upd_ne nqm]; exact hql
          have hus4 := hus.mono fun _ _ z => z.tp (Tp.putN (Tp.refl H') (l := md) (o := DnO P w md xs) fun xs z => by rw [hfz] at z; cases z)
          have hF4 := dn_kp hF k4
          generalize upd H' md (DnO P w md xs) = H4 at k4 hql4 hus4 hF4 ⊢
          rw [xl, List.take_length] at hus4
          try simp (maxSteps := 1000000) only [tSeq, tIfS, tTest, tOp, tUn, tCB, tCons, tNil, tVar, tC, rI0, rI, rU, rEq, rNe, tRet, tRetN, tAsg, gName, gSub, tBM, tBM0, tNext, tB, tNot, tAnd, tOr, tIf, tCall, tDrop, tBreak, tCont, L2.start, tDGet, sDPut, tTup, tLst, tDNewK, tRevL, rCat, rAppend, rPop, rSetL, tAndV, tOrV, tNotV, tSl, tPart, tNoPart, tM1, gTup, gCons, gNil, cxK, cxnK, List.map_cons, List.map_nil, List.length_cons, List.length_nil, List.replicate, List.cons_append, List.nil_append, List.append_nil, List.set_cons_zero, List.set_cons_succ, List.getElem?_cons_zero, List.getElem?_cons_succ, Option.some.injEq, V.ref.injEq, V.int.injEq, V.str.injEq, V.bl.injEq, V.ty.injEq, exists_eq_left', exists_eq_left, exists_and_left, List.cons.injEq, and_true, true_and, sc_ii, sc_ss, sc_bb, sc_ni, sc_in, sc_is, sc_si, sc_nn, decide_true, decide_false, reduceCtorEq, Bool.false_eq_true, if_true, if_false, ite_true, ite_false, exists_const, eq_self, false_and, and_false, or_false, false_or, exists_false, Evl.rLenS, rSum, wipe, tYes, exists_eq, exists_eq', rIxL, rIxT, rIxS, exists_and_right, gt_iff_lt, not_true_eq_false, not_false_eq_true, Bool.not_true, Bool.not_false, decide_eq_true_eq, Nat.reduceSub, Nat.reduceAdd, List.append_assoc, tChain, tDIn, tDNotIn, sDDel, tAug, ipI, rInt1_int, rInt1_bl]
          have kFs := k2.trans k4
          generalize efs : G.filter (fndP c a b F (j + 1)) = fs at hus4
          have hFn := hFo.step Gnd Gcl
          rw [efs] at hFn
          have fsl : fs.length ≤ 144 := by
            have := List.length_filter_le (fndP c a b F (j + 1)) G
            rw [efs] at this
            omega
          have Fl := hFo.len
          refine forL (xs := us) (a := ql) (WDf P w F fs la lb lp md fd' ql us Hm j) rfl (sq_l hql4) ⟨_, _, rfl, hql4, hus4, by rw [List.take_zero, List.map_nil, List.append_nil]; exact hF4, kFs⟩ (fun i σ H' _ h => by obtain ⟨_, _, _, h, _⟩ := h; exact sq_l h) ?_ ?_
          · rintro i v σ H5 hv ⟨d7, d8, rfl, hql5, hus5, hF5, k5⟩
            obtain ⟨s', es', hs'⟩ := hus5.get hv
            rw [List.getElem?_map] at es'
            obtain ⟨s, es, rfl⟩ := Option.map_eq_some_iff.mp es'
            obtain ⟨tt, rfl, htt⟩ := hs'
            have htt : H5 tt = some (.tup [.int s.1, .int s.2]) := htt
            try simp (maxSteps := 1000000) only [tSeq, tIfS, tTest, tOp, tUn, tCB, tCons, tNil, tVar, tC, rI0, rI, rU, rEq, rNe, tRet, tRetN, tAsg, gName, gSub, tBM, tBM0, tNext, tB, tNot, tAnd, tOr, tIf, tCall, tDrop, tBreak, tCont, L2.start, tDGet, sDPut, tTup, tLst, tDNewK, tRevL, rCat, rAppend, rPop, rSetL, tAndV, tOrV, tNotV, tSl, tPart, tNoPart, tM1, gTup, gCons, gNil, cxK, cxnK, List.map_cons, List.map_nil, List.length_cons, List.length_nil, List.replicate, List.cons_append, List.nil_append, List.append_nil, List.set_cons_zero, List.set_cons_succ, List.getElem?_cons_zero, List.getElem?_cons_succ, Option.some.injEq, V.ref.injEq, V.int.injEq, V.str.injEq, V.bl.injEq, V.ty.injEq, exists_eq_left', exists_eq_left, exists_and_left, List.cons.injEq, and_true, true_and, sc_ii, sc_ss, sc_bb, sc_ni, sc_in, sc_is, sc_si, sc_nn, decide_true, decide_false, reduceCtorEq, Bool.false_eq_true, if_true, if_false, ite_true, ite_false, exists_const, eq_self, false_and, and_false, or_false, false_or, exists_false, Evl.rLenS, rSum, wipe, tYes, exists_eq, exists_eq', rIxL, rIxT, rIxS, exists_and_right, gt_iff_lt, not_true_eq_false, not_false_eq_true, Bool.not_true, Bool.not_false, decide_eq_true_eq, Nat.reduceSub, Nat.reduceAdd, List.append_assoc, tChain, tDIn, tDNotIn, sDDel, tAug, ipI, rInt1_int, rInt1_bl, sNPut]
            refine ⟨_, hF5, keyI s, keyI_nk htt, by rw [List.length_map, List.length_append, List.length_map, List.length_take]; exact smallL (by omega), fun ob hob => ?_⟩
            have nin : s ∉ (F ++ (fs.take i).map fun s => (s, j + 1)).map (·.1) := by
              have nd := hFn.nd
              have e0 : (F ++ fs.map fun s => (s, j + 1)).map (·.1) = F.map (·.1) ++ fs := by
                rw [List.map_append, List.map_map]
                congr 1
                exact (List.map_congr_left fun _ _ => rfl).trans (List.map_id _)
              have e1 : (F ++ (fs.take i).map fun s => (s, j + 1)).map (·.1) = F.map (·.1) ++ fs.take i := by
                rw [List.map_append, List.map_map]
                congr 1
                exact (List.map_congr_left fun _ _ => rfl).trans (List.map_id _)
              rw [e0] at nd
              rw [e1]
              have il := (List.getElem?_eq_some_iff.mp es).1
              have e2 : fs = fs.take i ++ s :: fs.drop (i + 1) := by
                conv => lhs; rw [← List.take_append_drop i fs, List.drop_eq_getElem_cons il, (List.getElem?_eq_some_iff.mp es).2]
              rw [e2, ← List.append_assoc] at nd
              exact fun hm => (List.nodup_append.mp nd).2.2 s hm s List.mem_cons_self rfl
            have hp : putN ((F ++ (fs.take i).map fun s => (s, j + 1)).map fun e => (keyI e.1, V.int (e.2 : Nat))) (keyI s) (.int ((1 + j : Nat) : Int)) = (F ++ (fs.take (i + 1)).map fun s => (s, j + 1)).map fun e => (keyI e.1, V.int (e.2 : Nat)) := by
              have hn : valN ((F ++ (fs.take i).map fun s => (s, j + 1)).map fun e => (keyI e.1, V.int (e.2 : Nat))) (keyI s) = none := valN_notK (by
                rw [List.map_map]
                intro hm
                obtain ⟨e', he', ee⟩ := List.mem_map.mp hm
                exact nin (by rw [← keyI_inj ee]; exact List.mem_map_of_mem he'))
              unfold putN
              rw [hn, take_snoc es, Nat.add_comm 1 j]
              simp only [List.map_append, List.append_assoc, List.map_cons, List.map_nil]
              rfl
            have nfq : ql ≠ fd' := dn_nl hF5 hql5
            refine ⟨_, _, rfl, by rw [upd_ne nfq]; exact hql5, hus5.mono fun _ _ z => z.tp (fun x ys h => by rw [upd_ne (dn_nt hF5 h)]; exact h), ?_, k5.wr nfd⟩
            unfold FarAt
            rw [← hp]
            exact hob
          · rintro σ H5 ⟨d7, d8, rfl, hql5, hus5, hF5, k5⟩
            have ul : us.length = fs.length := by rw [hus5.len, List.length_map]
            rw [ul, List.take_length] at hF5
            try simp (maxSteps := 1000000) only [tSeq, tIfS, tTest, tOp, tUn, tCB, tCons, tNil, tVar, tC, rI0, rI, rU, rEq, rNe, tRet, tRetN, tAsg, gName, gSub, tBM, tBM0, tNext, tB, tNot, tAnd, tOr, tIf, tCall, tDrop, tBreak, tCont, L2.start, tDGet, sDPut, tTup, tLst, tDNewK, tRevL, rCat, rAppend, rPop, rSetL, tAndV, tOrV, tNotV, tSl, tPart, tNoPart, tM1, gTup, gCons, gNil, cxK, cxnK, List.map_cons, List.map_nil, List.length_cons, List.length_nil, List.replicate, List.cons_append, List.nil_append, List.append_nil, List.set_cons_zero, List.set_cons_succ, List.getElem?_cons_zero, List.getElem?_cons_succ, Option.some.injEq, V.ref.injEq, V.int.injEq, V.str.injEq, V.bl.injEq, V.ty.injEq, exists_eq_left', exists_eq_left, exists_and_left, List.cons.injEq, and_true, true_and, sc_ii, sc_ss, sc_bb, sc_ni, sc_in, sc_is, sc_si, sc_nn, decide_true, decide_false, reduceCtorEq, Bool.false_eq_true, if_true, if_false, ite_true, ite_false, exists_const, eq_self, false_and, and_false, or_false, false_or, exists_false, Evl.rLenS, rSum, wipe, tYes, exists_eq, exists_eq', rIxL, rIxT, rIxS, exists_and_right, gt_iff_lt, not_true_eq_false, not_false_eq_true, Bool.not_true, Bool.not_false, decide_eq_true_eq, Nat.reduceSub, Nat.reduceAdd, List.append_assoc, tChain, tDIn, tDNotIn, sDDel, tAug, ipI, rInt1_int, rInt1_bl, tNIn]
            have T145 : j + 1 ≤ 145 := by omega
            refine ⟨us, .inl (sq_l hql5), ?_⟩
            by_cases hul : us.length = 0
            · rw [if_pos (by omega)]
              have f0 : fs = [] := List.length_eq_zero_iff.mp (by omega)
              subst f0
              rw [List.map_nil, List.append_nil] at hF5
              exact hDn _ _ ⟨F, j, _, _, _, _, rfl, hF5, hFo, .inr (hFo.stop G0 Gcl efs h00), by omega, k5⟩
            · rw [if_neg (by omega)]
              refine ⟨small (by decide), fun p np => ?_⟩
              have kp := (Kp.new np : Kp [] H5 (upd H5 p (.tup [.int 0, .int 0])))
              have hp : (upd H5 p (.tup [.int 0, .int 0])) p = some (.tup [.int 0, .int 0]) := upd_same
              have hF6 : FarAt P w (upd H5 p (.tup [.int 0, .int 0])) fd' _ := dn_kp hF5 kp
              generalize upd H5 p (.tup [.int 0, .int 0]) = H6 at kp hp hF6 ⊢
              have jF2 : j + 1 ≤ (F ++ fs.map fun s => (s, j + 1)).length := by
                rw [List.length_append, List.length_map]
                omega
              generalize (F ++ fs.map fun s => (s, j + 1)) = F2 at hFn hF6 hF5 jF2
              refine ⟨_, hF6, keyI (0, 0), keyI_nk (s := (0, 0)) hp, ?_⟩
              have mk : keyI (0, 0) ∈ (F2.map fun e => (keyI e.1, V.int (e.2 : Nat))).map (·.1) ↔ (0, 0) ∈ F2.map (·.1) := by
                rw [List.map_map]
                constructor
                · intro h
                  obtain ⟨e', he', ee⟩ := List.mem_map.mp h
                  exact List.mem_map.mpr ⟨e', he', keyI_inj ee⟩
                · intro h
                  obtain ⟨e', he', ee⟩ := List.mem_map.mp h
                  exact List.mem_map.mpr ⟨e', he', by show keyI e'.1 = _; rw [ee]⟩
              rw [valN_isK]
              by_cases h0F : (0, 0) ∈ F2.map (·.1)
              · rw [decide_eq_true (mk.mpr h0F), if_pos rfl]
                exact hDn _ _ ⟨F2, j + 1, _, _, _, _, rfl, hF6, hFn, .inl h0F, T145, k5.trans kp⟩
              · rw [decide_eq_false (fun h => h0F (mk.mp h)), if_neg (by simp)]
                exact ⟨F2, _, _, _, _, rfl, hF6, hFn, h0F, jF2, k5.trans kp⟩
      · rintro σ H2 ⟨F, c5, c6, c7, c8, rfl, hF, hFo, h00, jl, k2⟩
        have := hFo.len
        omega
    · obtain ⟨F, T, c5, c6, c7, c8, rfl, hF, hFo, hO, T145, k2⟩ := h
      try simp (maxSteps := 1000000) only [tSeq, tIfS, tTest, tOp, tUn, tCB, tCons, tNil, tVar, tC, rI0, rI, rU, rEq, rNe, tRet, tRetN, tAsg, gName, gSub, tBM, tBM0, tNext, tB, tNot, tAnd, tOr, tIf, tCall, tDrop, tBreak, tCont, L2.start, tDGet, sDPut, tTup, tLst, tDNewK, tRevL, rCat, rAppend, rPop, rSetL, tAndV, tOrV, tNotV, tSl, tPart, tNoPart, tM1, gTup, gCons, gNil, cxK, cxnK, List.map_cons, List.map_nil, List.length_cons, List.length_nil, List.replicate, List.cons_append, List.nil_append, List.append_nil, List.set_cons_zero, List.set_cons_succ, List.getElem?_cons_zero, List.getElem?_cons_succ, Option.some.injEq, V.ref.injEq, V.int.injEq, V.str.injEq, V.bl.injEq, V.ty.injEq, exists_eq_left', exists_eq_left, exists_and_left, List.cons.injEq, and_true, true_and, sc_ii, sc_ss, sc_bb, sc_ni, sc_in, sc_is, sc_si, sc_nn, decide_true, decide_false, reduceCtorEq, Bool.false_eq_true, if_true, if_false, ite_true, ite_false, exists_const, eq_self, false_and, and_false, or_false, false_or, exists_false, Evl.rLenS, rSum, wipe, tYes, exists_eq, exists_eq', rIxL, rIxT, rIxS, exists_and_right, gt_iff_lt, not_true_eq_false, not_false_eq_true, Bool.not_true, Bool.not_false, decide_eq_true_eq, Nat.reduceSub, Nat.reduceAdd, List.append_assoc, tChain, tDIn, tDNotIn, sDDel, tAug, ipI, rInt1_int, rInt1_bl, tNNotIn]
      refine ⟨small (by decide), fun p np => ?_⟩
      have kp := (Kp.new np : Kp [] H2 (upd H2 p (.tup [.int 0, .int 0])))
      have hp : (upd H2 p (.tup [.int 0, .int 0])) p = some (.tup [.int 0, .int 0]) := upd_same
      have hF2 : FarAt P w (upd H2 p (.tup [.int 0, .int 0])) fd' F := dn_kp hF kp
      have k02 := (km.trans k2).trans kp
      have k22 := k2.trans kp
      generalize upd H2 p (.tup [.int 0, .int 0]) = H3 at kp hp hF2 k02 k22 ⊢
      refine ⟨_, hF2, keyI (0, 0), keyI_nk (s := (0, 0)) hp, ?_⟩
      have mk : keyI (0, 0) ∈ (F.map fun e => (keyI e.1, V.int (e.2 : Nat))).map (·.1) ↔ (0, 0) ∈ F.map (·.1) := by
        rw [List.map_map]
        constructor
        · intro h
          obtain ⟨e', he', ee⟩ := List.mem_map.mp h
          exact List.mem_map.mpr ⟨e', he', keyI_inj ee⟩
        · intro h
          obtain ⟨e', he', ee⟩ := List.mem_map.mp h
          exact List.mem_map.mpr ⟨e', he', by show keyI e'.1 = _; rw [ee]⟩
      rw [valN_isK]
      by_cases h0F : (0, 0) ∈ F.map (·.1)
      case neg =>
        rw [decide_eq_false (fun h => h0F (mk.mp h)), if_pos (by simp)]
        rcases hO with hO | hO
        · exact absurd hO h0F
        · exact q2 hO _ k02
      rw [decide_eq_true (mk.mpr h0F), if_neg (by simp)]
      obtain ⟨⟨s0, T0⟩, he0, es0⟩ := List.mem_map.mp h0F
      dsimp only at es0
      subst es0
      obtain ⟨_, hT0, hD0⟩ := hFo.sub _ he0
      dsimp only at hT0 hD0
      obtain ⟨i0, ei0⟩ := List.getElem?_of_mem he0
      have ndF : ((F.map fun e => (keyI e.1, V.int (e.2 : Nat))).map (·.1)).Nodup := by
        have : (F.map fun e => (keyI e.1, V.int (e.2 : Nat))).map (·.1) = (F.map (·.1)).map keyI := by rw [List.map_map, List.map_map]; rfl
        rw [this]
        exact List.pairwise_map.mpr (hFo.nd.imp fun h z => h (keyI_inj z))
      have v0 : valN (F.map fun e => (keyI e.1, V.int (e.2 : Nat))) (keyI (0, 0)) = some (.int (T0 : Nat)) := valN_nd ndF (i := i0) (by rw [List.getElem?_map, ei0]; rfl)
      refine ⟨Nat.zero_le _, fun rl nrl => ⟨small (by decide), fun at0 nat0 => ?_⟩⟩
      have kr := (Kp.new nrl (o := .lst [])).trans (Kp.new nat0 (o := .tup [.int 0, .int 0])) (S := [])
      have hr0 : (upd (upd H3 rl (.lst [])) at0 (.tup [.int 0, .int 0])) rl = some (.lst []) := (Kp.new nat0 : Kp [] _ _) _ _ not0 upd_same
      have ha0 : (upd (upd H3 rl (.lst [])) at0 (.tup [.int 0, .int 0])) at0 = some (.tup [.int 0, .int 0]) := upd_same
      generalize upd (upd H3 rl (.lst [])) at0 (.tup [.int 0, .int 0]) = H4 at kr hr0 ha0 ⊢
      have nrl0 := k02.free0 nrl
      refine forDown T0 (by omega) (WDg c a b G T0 la lb lp md fd' rl H3) (fun R h => ?_) (fun H5 k5 => ?_) ?_ ?_
      · try simp (maxSteps := 1000000) only [tSeq, tIfS, tTest, tOp, tUn, tCB, tCons, tNil, tVar, tC, rI0, rI, rU, rEq, rNe, tRet, tRetN, tAsg, gName, gSub, tBM, tBM0, tNext, tB, tNot, tAnd, tOr, tIf, tCall, tDrop, tBreak, tCont, L2.start, tDGet, sDPut, tTup, tLst, tDNewK, tRevL, rCat, rAppend, rPop, rSetL, tAndV, tOrV, tNotV, tSl, tPart, tNoPart, tM1, gTup, gCons, gNil, cxK, cxnK, List.map_cons, List.map_nil, List.length_cons, List.length_nil, List.replicate, List.cons_append, List.nil_append, List.append_nil, List.set_cons_zero, List.set_cons_succ, List.getElem?_cons_zero, List.getElem?_cons_succ, Option.some.injEq, V.ref.injEq, V.int.injEq, V.str.injEq, V.bl.injEq, V.ty.injEq, exists_eq_left', exists_eq_left, exists_and_left, List.cons.injEq, and_true, true_and, sc_ii, sc_ss, sc_bb, sc_ni, sc_in, sc_is, sc_si, sc_nn, decide_true, decide_false, reduceCtorEq, Bool.false_eq_true, if_true, if_false, ite_true, ite_false, exists_const, eq_self, false_and, and_false, or_false, false_or, exists_false, Evl.rLenS, rSum, wipe, tYes, exists_eq, exists_eq', rIxL, rIxT, rIxS, exists_and_right, gt_iff_lt, not_true_eq_false, not_false_eq_true, Bool.not_true, Bool.not_false, decide_eq_true_eq, Nat.reduceSub, Nat.reduceAdd, List.append_assoc, tChain, tDIn, tDNotIn, sDDel, tAug, ipI, rInt1_int, rInt1_bl, tNGet]
        refine ⟨small (by decide), fun p2 np2 => ?_⟩
        have kp2 := (Kp.new np2 : Kp [] H4 (upd H4 p2 (.tup [.int 0, .int 0])))
        exact ⟨_, dn_kp hF2 (kr.trans kp2), keyI (0, 0), keyI_nk (s := (0, 0)) upd_same, _, v0, h _ kp2⟩
      · refine ⟨[], [], _, _, _, _, _, rfl, k5 _ _ not0 hr0, .nil, rfl, kr.trans k5, fun _ => ⟨(0, 0), at0, rfl, k5 _ _ not0 ha0, G0, hD0, fun w' h => h⟩, fun h => ?_⟩
        have := hD0.pos
        omega
      · rintro j σ H5 hj ⟨u, us, d5, d6, d7, d8, d11, rfl, hrl, hus, ul, k5, hgo, -⟩
        obtain ⟨x, g, rfl, hg, xG, hDx, hGr⟩ := hgo hj
        obtain ⟨t, et⟩ : ∃ t, T0 - j = t + 1 := ⟨T0 - j - 1, by omega⟩
        rw [et] at hDx hGr
        have hF5 : FarAt P w H5 fd' F := dn_kp hF2 k5
        have hm5 := dn_kp en2 (k22.trans k5)
        obtain ⟨ix, eix⟩ : ∃ i, ∃ l, ents[i]? = some (x, l) := by
          have := xG
          rw [← en1] at this
          obtain ⟨e', he', rfl⟩ := List.mem_map.mp this
          obtain ⟨i, ei⟩ := List.getElem?_of_mem he'
          exact ⟨i, e'.2, ei⟩
        obtain ⟨l, el'⟩ := eix
        obtain ⟨rus, hrl', hrr⟩ := en3 _ (List.mem_of_getElem? el')
        have hrl5 := (k22.trans k5) _ _ not0 hrl'
        have hrr5 : Rw (MvAt H5) rus (fullM c a b x) := hrr.mono fun _ _ z => z.tp (k22.trans k5).tps
        have vx := valN_nd ndk (i := ix) (k := keyI x) (v := .ref l) (by rw [List.getElem?_map, el']; rfl)
        have flen := full_len (a := a) (b := b) c1 c3 x
        try simp (maxSteps := 1000000) only [tSeq, tIfS, tTest, tOp, tUn, tCB, tCons, tNil, tVar, tC, rI0, rI, rU, rEq, rNe, tRet, tRetN, tAsg, gName, gSub, tBM, tBM0, tNext, tB, tNot, tAnd, tOr, tIf, tCall, tDrop, tBreak, tCont, L2.start, tDGet, sDPut, tTup, tLst, tDNewK, tRevL, rCat, rAppend, rPop, rSetL, tAndV, tOrV, tNotV, tSl, tPart, tNoPart, tM1, gTup, gCons, gNil, cxK, cxnK, List.map_cons, List.map_nil, List.length_cons, List.length_nil, List.replicate, List.cons_append, List.nil_append, List.append_nil, List.set_cons_zero, List.set_cons_succ, List.getElem?_cons_zero, List.getElem?_cons_succ, Option.some.injEq, V.ref.injEq, V.int.injEq, V.str.injEq, V.bl.injEq, V.ty.injEq, exists_eq_left', exists_eq_left, exists_and_left, List.cons.injEq, and_true, true_and, sc_ii, sc_ss, sc_bb, sc_ni, sc_in, sc_is, sc_si, sc_nn, decide_true, decide_false, reduceCtorEq, Bool.false_eq_true, if_true, if_false, ite_true, ite_false, exists_const, eq_self, false_and, and_false, or_false, false_or, exists_false, Evl.rLenS, rSum, wipe, tYes, exists_eq, exists_eq', rIxL, rIxT, rIxS, exists_and_right, gt_iff_lt, not_true_eq_false, not_false_eq_true, Bool.not_true, Bool.not_false, decide_eq_true_eq, Nat.reduceSub, Nat.reduceAdd, List.append_assoc, tChain, tDIn, tDNotIn, sDDel, tAug, ipI, rInt1_int, rInt1_bl]
        refine lcG (R := MvAt) (R2 := MvAt) (fun _ _ _ _ t h => h.tp t) (fun _ _ _ _ t h => h.tp t) (fun m => endB F (t + 1) m.2) id (src_list (fun R q' => ⟨_, rfl, _, rfl, md, _, keyI x, .ref l, rfl, hm5, keyI_nk hg, vx, q'⟩) (sq_l hrl5)) hrr5 (by omega) (fun v m H6 N N0 hm hv k6 hN hN0 => ?_) fun Dl us6 H6 nD hD hrw k6 => ?_
        · refine ⟨by simp [wipe], ?_⟩
          try simp (maxSteps := 1000000) only [tSeq, tIfS, tTest, tOp, tUn, tCB, tCons, tNil, tVar, tC, rI0, rI, rU, rEq, rNe, tRet, tRetN, tAsg, gName, gSub, tBM, tBM0, tNext, tB, tNot, tAnd, tOr, tIf, tCall, tDrop, tBreak, tCont, L2.start, tDGet, sDPut, tTup, tLst, tDNewK, tRevL, rCat, rAppend, rPop, rSetL, tAndV, tOrV, tNotV, tSl, tPart, tNoPart, tM1, gTup, gCons, gNil, cxK, cxnK, List.map_cons, List.map_nil, List.length_cons, List.length_nil, List.replicate, List.cons_append, List.nil_append, List.append_nil, List.set_cons_zero, List.set_cons_succ, List.getElem?_cons_zero, List.getElem?_cons_succ, Option.some.injEq, V.ref.injEq, V.int.injEq, V.str.injEq, V.bl.injEq, V.ty.injEq, exists_eq_left', exists_eq_left, exists_and_left, List.cons.injEq, and_true, true_and, sc_ii, sc_ss, sc_bb, sc_ni, sc_in, sc_is, sc_si, sc_nn, decide_true, decide_false, reduceCtorEq, Bool.false_eq_true, if_true, if_false, ite_true, ite_false, exists_const, eq_self, false_and, and_false, or_false, false_or, exists_false, Evl.rLenS, rSum, wipe, tYes, exists_eq, exists_eq', rIxL, rIxT, rIxS, exists_and_right, gt_iff_lt, not_true_eq_false, not_false_eq_true, Bool.not_true, Bool.not_false, decide_eq_true_eq, Nat.reduceSub, Nat.reduceAdd, List.append_assoc, tChain, tDIn, tDNotIn, sDDel, tAug, ipI, rInt1_int, rInt1_bl]
          refine ⟨v, fd', t + 1, m, F, by rw [← et], hv, dn_kp hF5 k6, fun H7 k7 => ⟨_, rfl, ?_⟩⟩
          by_cases hb : endB F (t + 1) m.2 = true
          · rw [if_pos hb]
            exact hN hb _ _ (hv.tp k7.tps) k7
          · rw [if_neg hb]
            exact hN0 (by simpa using hb) _ k7
        · rw [List.map_id] at hrw
          cases efl : (fullM c a b x).filter (fun m => endB F (t + 1) m.2) with
          | nil =>
            obtain ⟨_, z, hz, hf⟩ := BO.dst_iff.mp hDx
            have hb := (hFo.ends (t := t) (Gcl x xG z hz) (by omega)).mpr hf
            have : (z, stC a b x z) ∈ (fullM c a b x).filter (fun m => endB F (t + 1) m.2) := List.mem_filter.mpr ⟨List.mem_map.mpr ⟨z, hz, rfl⟩, hb⟩
            rw [efl] at this
            cases this
          | cons m0 r0 =>
            rw [efl] at hrw
            obtain ⟨v0', ur, rfl, hv0, _⟩ := hrw.ex
            obtain ⟨xa, pw, tw, rfl, hxa, hpa, hop⟩ := hv0
            obtain ⟨e1, e2, e3⟩ := hFo.first Gcl xG (by omega) efl
            try simp (maxSteps := 1000000) only [tSeq, tIfS, tTest, tOp, tUn, tCB, tCons, tNil, tVar, tC, rI0, rI, rU, rEq, rNe, tRet, tRetN, tAsg, gName, gSub, tBM, tBM0, tNext, tB, tNot, tAnd, tOr, tIf, tCall, tDrop, tBreak, tCont, L2.start, tDGet, sDPut, tTup, tLst, tDNewK, tRevL, rCat, rAppend, rPop, rSetL, tAndV, tOrV, tNotV, tSl, tPart, tNoPart, tM1, gTup, gCons, gNil, cxK, cxnK, List.map_cons, List.map_nil, List.length_cons, List.length_nil, List.replicate, List.cons_append, List.nil_append, List.append_nil, List.set_cons_zero, List.set_cons_succ, List.getElem?_cons_zero, List.getElem?_cons_succ, Option.some.injEq, V.ref.injEq, V.int.injEq, V.str.injEq, V.bl.injEq, V.ty.injEq, exists_eq_left', exists_eq_left, exists_and_left, List.cons.injEq, and_true, true_and, sc_ii, sc_ss, sc_bb, sc_ni, sc_in, sc_is, sc_si, sc_nn, decide_true, decide_false, reduceCtorEq, Bool.false_eq_true, if_true, if_false, ite_true, ite_false, exists_const, eq_self, false_and, and_false, or_false, false_or, exists_false, Evl.rLenS, rSum, wipe, tYes, exists_eq, exists_eq', rIxL, rIxT, rIxS, exists_and_right, gt_iff_lt, not_true_eq_false, not_false_eq_true, Bool.not_true, Bool.not_false, decide_eq_true_eq, Nat.reduceSub, Nat.reduceAdd, List.append_assoc, tChain, tDIn, tDNotIn, sDDel, tAug, ipI, rInt1_int, rInt1_bl]
            have hrl6 := k6 _ _ not0 hrl
            have nDr : Dl ≠ rl := (ne_of_none hrl nD).symm
            have tp : Tp H6 (upd H6 rl (.lst (us ++ [pw]))) := (Tp.refl _).putL hrl6
            have atI0 : atI (V.ref xa :: ur) 0 = some (.ref xa) := (show atI _ ((0 : Nat) : Int) = _ from atI_nat rfl)
            refine ⟨.inl ⟨rfl, _, sq_l hrl6⟩, _, sq_l hD, _, atI0, xa, rfl, _, sq_t hxa, pw, rfl, us, hrl6, by rw [hus.len]; exact smallL (by omega), _, sq_l (by rw [upd_ne nDr]; exact hD), _, atI0, xa, rfl, _, sq_t (tp _ _ hxa), tw, rfl, ?_⟩
            rw [e1] at hop
            refine ⟨u ++ [m0.1], us ++ [pw], _, _, _, _, _, rfl, upd_same, (hus.mono fun _ _ z => z.tp (k6.tps.trans tp)).snoc (hpa.tp tp), by rw [List.length_append, ul]; rfl, (k5.trans k6).wr nrl, fun hj1 => ?_, fun hj1 => ?_⟩
            · have et2 : T0 - (j + 1) = t := by omega
              rw [et2]
              obtain ⟨_, _, _, hf, _⟩ := id e3
              cases est : stC a b x m0.1 with
              | none =>
                unfold BO.Fit at hf
                rw [est] at hf
                dsimp only at hf
                omega
              | some x' =>
                rw [est] at hop
                obtain ⟨g', rfl, hg'⟩ := hop
                unfold BO.Fit at hf
                rw [est] at hf
                refine ⟨x', g', rfl, tp _ _ hg', Gcl x xG _ e2 _ est, hf.2, fun w' hw' => ?_⟩
                rw [List.append_assoc]
                refine hGr _ ⟨m0.1, w', rfl, e3, ?_⟩
                rw [est]
                exact hw'
            · have et2 : t = 0 := by omega
              subst et2
              refine hGr _ ⟨m0.1, [], rfl, e3, ?_⟩
              cases est : stC a b x m0.1 with
              | none => rfl
              | some x' => rfl
      · rintro σ H5 ⟨u, us, d5, d6, d7, d8, d11, rfl, hrl, hus, ul, k5, -, hgr⟩
        try simp (maxSteps := 1000000) only [tSeq, tIfS, tTest, tOp, tUn, tCB, tCons, tNil, tVar, tC, rI0, rI, rU, rEq, rNe, tRet, tRetN, tAsg, gName, gSub, tBM, tBM0, tNext, tB, tNot, tAnd, tOr, tIf, tCall, tDrop, tBreak, tCont, L2.start, tDGet, sDPut, tTup, tLst, tDNewK, tRevL, rCat, rAppend, rPop, rSetL, tAndV, tOrV, tNotV, tSl, tPart, tNoPart, tM1, gTup, gCons, gNil, cxK, cxnK, List.map_cons, List.map_nil, List.length_cons, List.length_nil, List.replicate, List.cons_append, List.nil_append, List.append_nil, List.set_cons_zero, List.set_cons_succ, List.getElem?_cons_zero, List.getElem?_cons_succ, Option.some.injEq, V.ref.injEq, V.int.injEq, V.str.injEq, V.bl.injEq, V.ty.injEq, exists_eq_left', exists_eq_left, exists_and_left, List.cons.injEq, and_true, true_and, sc_ii, sc_ss, sc_bb, sc_ni, sc_in, sc_is, sc_si, sc_nn, decide_true, decide_false, reduceCtorEq, Bool.false_eq_true, if_true, if_false, ite_true, ite_false, exists_const, eq_self, false_and, and_false, or_false, false_or, exists_false, Evl.rLenS, rSum, wipe, tYes, exists_eq, exists_eq', rIxL, rIxT, rIxS, exists_and_right, gt_iff_lt, not_true_eq_false, not_false_eq_true, Bool.not_true, Bool.not_false, decide_eq_true_eq, Nat.reduceSub, Nat.reduceAdd, List.append_assoc, tChain, tDIn, tDNotIn, sDDel, tAug, ipI, rInt1_int, rInt1_bl]
        exact q1 u rl us H5 (BO.grd_is (mv_ord c1 c3 a) hD0 (hgr rfl)) (by omega) nrl0 hrl hus (k02.trans k5)
end
end My

set_option Elab.async false
set_option linter.all false
set_option maxRecDepth 100000
set_option maxHeartbeats 4000000
namespace My
open PySem L2 NdefX StX
abbrev s_law_same : Stmt := top 31
theorem sc_law_same : FnScope ["_law_row_here", "_law_due_here", "_law_k", "_law_j"] ["_law_row_here", "_law_due_here"] (defScope s_law_same) := ⟨rfl, rfl, rfl, by decide +kernel, rfl, by decide +kernel, by decide +kernel⟩
structure BtS (mg : Str → Option Value) : Prop where
  b_isinstance : mg "isinstance" = none
  b_int : mg "int" = none
  b_bool : mg "bool" = none
  b_tuple : mg "tuple" = none
  b_list : mg "list" = none
  b_len : mg "len" = none
  b_range : mg "range" = none
section
variable {P : Program} {w : World} {K : PySem.W.Frag} {mg : Str → Option Value} {base : Heap} {t1 t2 : Tok}
def spNumber : Sp := fun vs H Q _ => ∃ (i d : Int), vs = [.int i, .int d] ∧ Q (.bl (decide (i = d))) H
theorem ok_law_number {f : Addr} {fd : FuncData} (D : Df K mg "_law_number" s_law_number ["_law_x", "_law_due_here"] f fd) (T : BtS mg) : FnOk P w K mg base CX0 1 f fd ["_law_x", "_law_due_here"] spNumber := by
  refine D.F.ok sc_law_number (fun vs H Q E h => ?_) (fun cdv A outer s H vs Q E hr h => ?_)
  · obtain ⟨v, m, rfl, _⟩ := h
    rfl
  · obtain ⟨i, m, rfl, q⟩ := h
    refine ⟨_, (pss_one (ps_ret (pe_and (pe_callB (id := "isinstance") (r := rIsi K) call_isi (by rfl) T.b_isinstance (by decide +kernel) (pa_cons (pv 0) (pa_cons (pe_bltn (v := .ty "int") (by rfl) T.b_int (by decide +kernel) rfl) pa_nil))) (pe_and (pe_not (pe_callB (id := "isinstance") (r := rIsi K) call_isi (by rfl) T.b_isinstance (by decide +kernel) (pa_cons (pv 0) (pa_cons (pe_bltn (v := .ty "bool") (by rfl) T.b_bool (by decide +kernel) rfl) pa_nil)))) (pe_one (pe_cmpR op_eq (pv 0) (pv 1) (nomark _))))))), ?_⟩
    try simp (maxSteps := 1000000) only [tSeq, tIfS, tTest, tOp, tUn, tCB, tCons, tNil, tVar, tC, rI0, rI, rU, rEq, rNe, tRet, tRetN, tAsg, gName, gSub, tBM, tBM0, tNext, tB, tNot, tAnd, tOr, tIf, tCall, tDrop, tBreak, tCont, L2.start, tDGet, sDPut, tTup, tLst, tDNewK, tRevL, rCat, rAppend, rPop, rSetL, tAndV, tOrV, tNotV, tSl, tPart, tNoPart, tM1, gTup, gCons, gNil, cxK, cxnK, List.map_cons, List.map_nil, List.length_cons, List.length_nil, List.replicate, List.cons_append, List.nil_append, List.append_nil, List.set_cons_zero, List.set_cons_succ, List.getElem?_cons_zero, List.getElem?_cons_succ, Option.some.injEq, V.ref.injEq, V.int.injEq, V.str.injEq, V.bl.injEq, V.ty.injEq, exists_eq_left', exists_eq_left, exists_and_left, List.cons.injEq, and_true, true_and, sc_ii, sc_ss, sc_bb, sc_ni, sc_in, sc_is, sc_si, sc_nn, decide_true, decide_false, reduceCtorEq, Bool.false_eq_true, if_true, if_false, ite_true, ite_false, exists_const, eq_self, false_and, and_false, or_false, false_or, exists_false, Evl.rLenS, rSum, wipe, tYes, exists_eq, exists_eq', rIxL, rIxT, rIxS, exists_and_right, gt_iff_lt, not_true_eq_false, not_false_eq_true, Bool.not_true, Bool.not_false, decide_eq_true_eq, Nat.reduceSub, Nat.reduceAdd, List.append_assoc, tChain, tDIn, tDNotIn, sDDel, tAug, ipI, rInt1_int, rInt1_bl]
    refine isi_int_int ?_
    try simp (maxSteps := 1000000) only [tSeq, tIfS, tTest, tOp, tUn, tCB, tCons, tNil, tVar, tC, rI0, rI, rU, rEq, rNe, tRet, tRetN, tAsg, gName, gSub, tBM, tBM0, tNext, tB, tNot, tAnd, tOr, tIf, tCall, tDrop, tBreak, tCont, L2.start, tDGet, sDPut, tTup, tLst, tDNewK, tRevL, rCat, rAppend, rPop, rSetL, tAndV, tOrV, tNotV, tSl, tPart, tNoPart, tM1, gTup, gCons, gNil, cxK, cxnK, List.map_cons, List.map_nil, List.length_cons, List.length_nil, List.replicate, List.cons_append, List.nil_append, List.append_nil, List.set_cons_zero, List.set_cons_succ, List.getElem?_cons_zero, List.getElem?_cons_succ, Option.some.injEq, V.ref.injEq, V.int.injEq, V.str.injEq, V.bl.injEq, V.ty.injEq, exists_eq_left', exists_eq_left, exists_and_left, List.cons.injEq, and_true, true_and, sc_ii, sc_ss, sc_bb, sc_ni, sc_in, sc_is, sc_si, sc_nn, decide_true, decide_false, reduceCtorEq, Bool.false_eq_true, if_true, if_false, ite_true, ite_false, exists_const, eq_self, false_and, and_false, or_false, false_or, exists_false, Evl.rLenS, rSum, wipe, tYes, exists_eq, exists_eq', rIxL, rIxT, rIxS, exists_and_right, gt_iff_lt, not_true_eq_false, not_false_eq_true, Bool.not_true, Bool.not_false, decide_eq_true_eq, Nat.reduceSub, Nat.reduceAdd, List.append_assoc, tChain, tDIn, tDNotIn, sDDel, tAug, ipI, rInt1_int, rInt1_bl]
    refine isi_int_bool ?_
    try simp (maxSteps := 1000000) only [tSeq, tIfS, tTest, tOp, tUn, tCB, tCons, tNil, tVar, tC, rI0, rI, rU, rEq, rNe, tRet, tRetN, tAsg, gName, gSub, tBM, tBM0, tNext, tB, tNot, tAnd, tOr, tIf, tCall, tDrop, tBreak, tCont, L2.start, tDGet, sDPut, tTup, tLst, tDNewK, tRevL, rCat, rAppend, rPop, rSetL, tAndV, tOrV, tNotV, tSl, tPart, tNoPart, tM1, gTup, gCons, gNil, cxK, cxnK, List.map_cons, List.map_nil, List.length_cons, List.length_nil, List.replicate, List.cons_append, List.nil_append, List.append_nil, List.set_cons_zero, List.set_cons_succ, List.getElem?_cons_zero, List.getElem?_cons_succ, Option.some.injEq, V.ref.injEq, V.int.injEq, V.str.injEq, V.bl.injEq, V.ty.injEq, exists_eq_left', exists_eq_left, exists_and_left, List.cons.injEq, and_true, true_and, sc_ii, sc_ss, sc_bb, sc_ni, sc_in, sc_is, sc_si, sc_nn, decide_true, decide_false, reduceCtorEq, Bool.false_eq_true, if_true, if_false, ite_true, ite_false, exists_const, eq_self, false_and, and_false, or_false, false_or, exists_false, Evl.rLenS, rSum, wipe, tYes, exists_eq, exists_eq', rIxL, rIxT, rIxS, exists_and_right, gt_iff_lt, not_true_eq_false, not_false_eq_true, Bool.not_true, Bool.not_false, decide_eq_true_eq, Nat.reduceSub, Nat.reduceAdd, List.append_assoc, tChain, tDIn, tDNotIn, sDDel, tAug, ipI, rInt1_int, rInt1_bl]
    exact q
def spSame : Sp := fun vs H Q _ => (vs = [.non, .non] ∧ ∀ H', Kp [] H H' → Q (.bl true) H') ∨ ∃ (l1 l2 : Addr) (u1 u2 : List V) (r : List Pr), vs = [.ref l1, .ref l2] ∧ H l1 = some (.lst u1) ∧ Rw (PrAt H) u1 r ∧ H l2 = some (.lst u2) ∧ Rw (PrAt H) u2 r ∧ r.length ≤ 1000 ∧ (∀ p ∈ r, p.1.length ≤ 1000) ∧ ∀ H', Kp [] H H' → Q (.bl true) H'
theorem ok_law_same {f : Addr} {fd : FuncData} (D : Df K mg "_law_same" s_law_same ["_law_row_here", "_law_due_here"] f fd) (T : BtS mg) {fn : Addr} {fdn : FuncData} (D_law_number : Df K mg "_law_number" s_law_number ["_law_x", "_law_due_here"] fn fdn) (G_law_number : FnOk P w K mg base CX0 1 fn fdn ["_law_x", "_law_due_here"] spNumber) : FnOk P w K mg base CX0 2 f fd ["_law_row_here", "_law_due_here"] spSame := by
  refine D.F.ok sc_law_same (fun vs H Q E h => ?_) (fun cdv A outer s H vs Q E hr h => ?_)
  · rcases h with ⟨rfl, _⟩ | ⟨_, _, _, _, _, rfl, _⟩ <;> rfl
  · refine ⟨_, (pss_cons (ps_if (PW.pt (pw_or (pt_cmpR op_isN (pv 1) pe_non (nomark _)) (pw_or1 (pt_cmpR op_isN (pv 0) pe_non (nomark _))))) (pss_one (ps_ret (pe_and (pe_cmpR op_isN (pv 1) pe_non (nomark _)) (pe_one (pe_cmpR op_isN (pv 0) pe_non (nomark _)))))) pss_nil)
      (pss_cons (ps_if (PW.pt (pw_or (pt_not (pt_val (pe_callB (id := "isinstance") (r := rIsi K) call_isi (by rfl) T.b_isinstance (by decide +kernel) (pa_cons (pv 0) (pa_cons (pe_bltn (v := .ty "list") (by rfl) T.b_list (by decide +kernel) rfl) pa_nil))))) (pw_or1 (pt_cmpR op_ne (pe_callB (id := "len") (r := Evl.rLenS K) call_len_seq (by rfl) T.b_len PySem.boot_len (pa_cons (pv 0) pa_nil)) (pe_callB (id := "len") (r := Evl.rLenS K) call_len_seq (by rfl) T.b_len PySem.boot_len (pa_cons (pv 1) pa_nil)) (nomark _))))) (pss_one (ps_ret pe_bl)) pss_nil)
      (pss_cons (ps_for PassesOwn.never rfl (pi_range1 rfl T.b_range (pa_cons (pe_callB (id := "len") (r := Evl.rLenS K) call_len_seq (by rfl) T.b_len PySem.boot_len (pa_cons (pv 1) pa_nil)) pa_nil)) (pg_name (i := 2) sc_law_same.nd rfl (Or.inl rfl)) (pss_cons (ps_if (PW.pt (pw_or (pt_not (pt_val (pe_callB (id := "isinstance") (r := rIsi K) call_isi (by rfl) T.b_isinstance (by decide +kernel) (pa_cons (pe_ix (r := rIxL K) ix_list (pv 0) (pv 2) (fun _ _ => rfl)) (pa_cons (pe_bltn (v := .ty "tuple") (by rfl) T.b_tuple (by decide +kernel) rfl) pa_nil))))) (pw_or (pt_cmpR op_ne (pe_callB (id := "len") (r := Evl.rLenS K) call_len_seq (by rfl) T.b_len PySem.boot_len (pa_cons (pe_ix (r := rIxL K) ix_list (pv 0) (pv 2) (fun _ _ => rfl)) pa_nil)) pe_int (nomark _)) (pw_or1 (pt_not (pt_val (pe_call G_law_number (hr.mono (by decide)) rfl D_law_number.g D_law_number.F.kp D_law_number.b .nil pass0 (pa_cons (pe_ix (r := rIxT K) ix_tup (pe_ix (r := rIxL K) ix_list (pv 0) (pv 2) (fun _ _ => rfl)) pe_int (fun _ _ => rfl)) (pa_cons (pe_ix (r := rIxT K) ix_tup (pe_ix (r := rIxL K) ix_list (pv 1) (pv 2) (fun _ _ => rfl)) pe_int (fun _ _ => rfl)) pa_nil))))))))) (pss_one (ps_ret pe_bl)) pss_nil)
      (pss_cons (ps_if (PW.pt (pw_or (pt_not (pt_val (pe_callB (id := "isinstance") (r := rIsi K) call_isi (by rfl) T.b_isinstance (by decide +kernel) (pa_cons (pe_ix (r := rIxT K) ix_tup (pe_ix (r := rIxL K) ix_list (pv 0) (pv 2) (fun _ _ => rfl)) pe_int (fun _ _ => rfl)) (pa_cons (pe_bltn (v := .ty "tuple") (by rfl) T.b_tuple (by decide +kernel) rfl) pa_nil))))) (pw_or1 (pt_cmpR op_ne (pe_callB (id := "len") (r := Evl.rLenS K) call_len_seq (by rfl) T.b_len PySem.boot_len (pa_cons (pe_ix (r := rIxT K) ix_tup (pe_ix (r := rIxL K) ix_list (pv 0) (pv 2) (fun _ _ => rfl)) pe_int (fun _ _ => rfl)) pa_nil)) (pe_callB (id := "len") (r := Evl.rLenS K) call_len_seq (by rfl) T.b_len PySem.boot_len (pa_cons (pe_ix (r := rIxT K) ix_tup (pe_ix (r := rIxL K) ix_list (pv 1) (pv 2) (fun _ _ => rfl)) pe_int (fun _ _ => rfl)) pa_nil)) (nomark _))))) (pss_one (ps_ret pe_bl)) pss_nil)
      (pss_one (ps_for PassesOwn.never rfl (pi_range1 rfl T.b_range (pa_cons (pe_callB (id := "len") (r := Evl.rLenS K) call_len_seq (by rfl) T.b_len PySem.boot_len (pa_cons (pe_ix (r := rIxT K) ix_tup (pe_ix (r := rIxL K) ix_list (pv 1) (pv 2) (fun _ _ => rfl)) pe_int (fun _ _ => rfl)) pa_nil)) pa_nil)) (pg_name (i := 3) sc_law_same.nd rfl (Or.inl rfl)) (pss_one (ps_if (pt_not (pt_val (pe_call G_law_number (hr.mono (by decide)) rfl D_law_number.g D_law_number.F.kp D_law_number.b .nil pass0 (pa_cons (pe_ix (r := rIxT K) ix_tup (pe_ix (r := rIxT K) ix_tup (pe_ix (r := rIxL K) ix_list (pv 0) (pv 2) (fun _ _ => rfl)) pe_int (fun _ _ => rfl)) (pv 3) (fun _ _ => rfl)) (pa_cons (pe_ix (r := rIxT K) ix_tup (pe_ix (r := rIxT K) ix_tup (pe_ix (r := rIxL K) ix_list (pv 1) (pv 2) (fun _ _ => rfl)) pe_int (fun _ _ => rfl)) (pv 3) (fun _ _ => rfl)) pa_nil))))) (pss_one (ps_ret pe_bl)) pss_nil)))))))
      (pss_one (ps_ret pe_bl))))), ?_⟩
    rcases h with ⟨rfl, q⟩ | ⟨l1, l2, u1, u2, r, rfl, h1, hr1, h2, hr2, rl, pl, q⟩
    · try simp (maxSteps := 1000000) only [tSeq, tIfS, tTest, tOp, tUn, tCB, tCons, tNil, tVar, tC, rI0, rI, rU, rEq, rNe, tRet, tRetN, tAsg, gName, gSub, tBM, tBM0, tNext, tB, tNot, tAnd, tOr, tIf, tCall, tDrop, tBreak, tCont, L2.start, tDGet, sDPut, tTup, tLst, tDNewK, tRevL, rCat, rAppend, rPop, rSetL, tAndV, tOrV, tNotV, tSl, tPart, tNoPart, tM1, gTup, gCons, gNil, cxK, cxnK, List.map_cons, List.map_nil, List.length_cons, List.length_nil, List.replicate, List.cons_append, List.nil_append, List.append_nil, List.set_cons_zero, List.set_cons_succ, List.getElem?_cons_zero, List.getElem?_cons_succ, Option.some.injEq, V.ref.injEq, V.int.injEq, V.str.injEq, V.bl.injEq, V.ty.injEq, exists_eq_left', exists_eq_left, exists_and_left, List.cons.injEq, and_true, true_and, sc_ii, sc_ss, sc_bb, sc_ni, sc_in, sc_is, sc_si, sc_nn, decide_true, decide_false, reduceCtorEq, Bool.false_eq_true, if_true, if_false, ite_true, ite_false, exists_const, eq_self, false_and, and_false, or_false, false_or, exists_false, Evl.rLenS, rSum, wipe, tYes, exists_eq, exists_eq', rIxL, rIxT, rIxS, exists_and_right, gt_iff_lt, not_true_eq_false, not_false_eq_true, Bool.not_true, Bool.not_false, decide_eq_true_eq, Nat.reduceSub, Nat.reduceAdd, List.append_assoc, tChain, tDIn, tDNotIn, sDDel, tAug, ipI, rInt1_int, rInt1_bl]
      exact q H (Kp.refl _ _)
    · try simp (maxSteps := 1000000) only [tSeq, tIfS, tTest, tOp, tUn, tCB, tCons, tNil, tVar, tC, rI0, rI, rU, rEq, rNe, tRet, tRetN, tAsg, gName, gSub, tBM, tBM0, tNext, tB, tNot, tAnd, tOr, tIf, tCall, tDrop, tBreak, tCont, L2.start, tDGet, sDPut, tTup, tLst, tDNewK, tRevL, rCat, rAppend, rPop, rSetL, tAndV, tOrV, tNotV, tSl, tPart, tNoPart, tM1, gTup, gCons, gNil, cxK, cxnK, List.map_cons, List.map_nil, List.length_cons, List.length_nil, List.replicate, List.cons_append, List.nil_append, List.append_nil, List.set_cons_zero, List.set_cons_succ, List.getElem?_cons_zero, List.getElem?_cons_succ, Option.some.injEq, V.ref.injEq, V.int.injEq, V.str.injEq, V.bl.injEq, V.ty.injEq, exists_eq_left', exists_eq_left, exists_and_left, List.cons.injEq, and_true, true_and, sc_ii, sc_ss, sc_bb, sc_ni, sc_in, sc_is, sc_si, sc_nn, decide_true, decide_false, reduceCtorEq, Bool.false_eq_true, if_true, if_false, ite_true, ite_false, exists_const, eq_self, false_and, and_false, or_false, false_or, exists_false, Evl.rLenS, rSum, wipe, tYes, exists_eq, exists_eq', rIxL, rIxT, rIxS, exists_and_right, gt_iff_lt, not_true_eq_false, not_false_eq_true, Bool.not_true, Bool.not_false, decide_eq_true_eq, Nat.reduceSub, Nat.reduceAdd, List.append_assoc, tChain, tDIn, tDNotIn, sDDel, tAug, ipI, rInt1_int, rInt1_bl]
      refine isi_mk (.lst h1) (b := true) (by decide +kernel) ?_
      refine ⟨_, rfl, ?_⟩
      rw [if_neg (by simp)]
      refine ⟨_, .inl (sq_l h1), _, .inl (sq_l h2), ?_⟩
      rw [hr1.len, hr2.len, if_neg (by simp)]
      refine forN r.length (by omega) (fun j σ H' => ∃ (c2 c3 : Option V), σ = [some (.ref l1), some (.ref l2), c2, c3] ∧ Kp [] H H') (fun R h => ?_) ⟨_, _, rfl, Kp.refl _ _⟩ ?_ ?_
      · try simp (maxSteps := 1000000) only [tSeq, tIfS, tTest, tOp, tUn, tCB, tCons, tNil, tVar, tC, rI0, rI, rU, rEq, rNe, tRet, tRetN, tAsg, gName, gSub, tBM, tBM0, tNext, tB, tNot, tAnd, tOr, tIf, tCall, tDrop, tBreak, tCont, L2.start, tDGet, sDPut, tTup, tLst, tDNewK, tRevL, rCat, rAppend, rPop, rSetL, tAndV, tOrV, tNotV, tSl, tPart, tNoPart, tM1, gTup, gCons, gNil, cxK, cxnK, List.map_cons, List.map_nil, List.length_cons, List.length_nil, List.replicate, List.cons_append, List.nil_append, List.append_nil, List.set_cons_zero, List.set_cons_succ, List.getElem?_cons_zero, List.getElem?_cons_succ, Option.some.injEq, V.ref.injEq, V.int.injEq, V.str.injEq, V.bl.injEq, V.ty.injEq, exists_eq_left', exists_eq_left, exists_and_left, List.cons.injEq, and_true, true_and, sc_ii, sc_ss, sc_bb, sc_ni, sc_in, sc_is, sc_si, sc_nn, decide_true, decide_false, reduceCtorEq, Bool.false_eq_true, if_true, if_false, ite_true, ite_false, exists_const, eq_self, false_and, and_false, or_false, false_or, exists_false, Evl.rLenS, rSum, wipe, tYes, exists_eq, exists_eq', rIxL, rIxT, rIxS, exists_and_right, gt_iff_lt, not_true_eq_false, not_false_eq_true, Bool.not_true, Bool.not_false, decide_eq_true_eq, Nat.reduceSub, Nat.reduceAdd, List.append_assoc, tChain, tDIn, tDNotIn, sDDel, tAug, ipI, rInt1_int, rInt1_bl]
        refine ⟨_, .inl (sq_l h2), ?_⟩
        rw [hr2.len]
        exact h
      · rintro j σ H1 hj ⟨c2, c3, rfl, k1⟩
        obtain ⟨p, ep⟩ : ∃ p, r[j]? = some p := ⟨_, List.getElem?_eq_getElem hj⟩
        obtain ⟨v1, e1, x1, w1, rfl, hx1, hw1⟩ := hr1.at ep
        obtain ⟨v2, e2, x2, w2, rfl, hx2, hw2⟩ := hr2.at ep
        obtain ⟨a1, rfl, ha1⟩ := hw1
        obtain ⟨a2, rfl, ha2⟩ := hw2
        have h11 := k1 _ _ not0 h1
        have h21 := k1 _ _ not0 h2
        have hx11 := k1 _ _ not0 hx1
        have hx21 := k1 _ _ not0 hx2
        have ha11 := k1 _ _ not0 ha1
        have ha21 := k1 _ _ not0 ha2
        have pl' := pl p (List.mem_of_getElem? ep)
        try simp (maxSteps := 1000000) only [tSeq, tIfS, tTest, tOp, tUn, tCB, tCons, tNil, tVar, tC, rI0, rI, rU, rEq, rNe, tRet, tRetN, tAsg, gName, gSub, tBM, tBM0, tNext, tB, tNot, tAnd, tOr, tIf, tCall, tDrop, tBreak, tCont, L2.start, tDGet, sDPut, tTup, tLst, tDNewK, tRevL, rCat, rAppend, rPop, rSetL, tAndV, tOrV, tNotV, tSl, tPart, tNoPart, tM1, gTup, gCons, gNil, cxK, cxnK, List.map_cons, List.map_nil, List.length_cons, List.length_nil, List.replicate, List.cons_append, List.nil_append, List.append_nil, List.set_cons_zero, List.set_cons_succ, List.getElem?_cons_zero, List.getElem?_cons_succ, Option.some.injEq, V.ref.injEq, V.int.injEq, V.str.injEq, V.bl.injEq, V.ty.injEq, exists_eq_left', exists_eq_left, exists_and_left, List.cons.injEq, and_true, true_and, sc_ii, sc_ss, sc_bb, sc_ni, sc_in, sc_is, sc_si, sc_nn, decide_true, decide_false, reduceCtorEq, Bool.false_eq_true, if_true, if_false, ite_true, ite_false, exists_const, eq_self, false_and, and_false, or_false, false_or, exists_false, Evl.rLenS, rSum, wipe, tYes, exists_eq, exists_eq', rIxL, rIxT, rIxS, exists_and_right, gt_iff_lt, not_true_eq_false, not_false_eq_true, Bool.not_true, Bool.not_false, decide_eq_true_eq, Nat.reduceSub, Nat.reduceAdd, List.append_assoc, tChain, tDIn, tDNotIn, sDDel, tAug, ipI, rInt1_int, rInt1_bl]
        refine ⟨_, sq_l h11, _, atI_nat e1, isi_mk (.tup hx11) (b := true) (by decide +kernel) ⟨_, rfl, ?_⟩⟩
        rw [if_neg (by simp)]
        refine ⟨_, sq_l h11, _, atI_nat e1, x1, rfl, _, .inr (sq_t hx11), ?_⟩
        rw [if_neg (by simp)]
        refine ⟨_, sq_l h11, _, atI_nat e1, x1, rfl, _, sq_t hx11, _, rfl, _, sq_l h21, _, atI_nat e2, x2, rfl, _, sq_t hx21, _, rfl, p.2, p.2, rfl, _, rfl, ?_⟩
        rw [if_neg (by simp)]
        refine ⟨_, sq_l h11, _, atI_nat e1, x1, rfl, _, sq_t hx11, _, rfl, isi_mk (.tup ha11) (b := true) (by decide +kernel) ⟨_, rfl, ?_⟩⟩
        rw [if_neg (by simp)]
        refine ⟨_, sq_l h11, _, atI_nat e1, x1, rfl, _, sq_t hx11, _, rfl, a1, rfl, _, .inr (sq_t ha11), _, sq_l h21, _, atI_nat e2, x2, rfl, _, sq_t hx21, _, rfl, a2, rfl, _, .inr (sq_t ha21), ?_⟩
        rw [if_neg (by simp)]
        refine forN p.1.length (by omega) (fun i σ H' => ∃ (c3 : Option V), σ = [some (.ref l1), some (.ref l2), some (.int (j : Nat)), c3] ∧ Kp [] H1 H') (fun R h => ?_) ⟨_, rfl, Kp.refl _ _⟩ ?_ ?_
        · try simp (maxSteps := 1000000) only [tSeq, tIfS, tTest, tOp, tUn, tCB, tCons, tNil, tVar, tC, rI0, rI, rU, rEq, rNe, tRet, tRetN, tAsg, gName, gSub, tBM, tBM0, tNext, tB, tNot, tAnd, tOr, tIf, tCall, tDrop, tBreak, tCont, L2.start, tDGet, sDPut, tTup, tLst, tDNewK, tRevL, rCat, rAppend, rPop, rSetL, tAndV, tOrV, tNotV, tSl, tPart, tNoPart, tM1, gTup, gCons, gNil, cxK, cxnK, List.map_cons, List.map_nil, List.length_cons, List.length_nil, List.replicate, List.cons_append, List.nil_append, List.append_nil, List.set_cons_zero, List.set_cons_succ, List.getElem?_cons_zero, List.getElem?_cons_succ, Option.some.injEq, V.ref.injEq, V.int.injEq, V.str.injEq, V.bl.injEq, V.ty.injEq, exists_eq_left', exists_eq_left, exists_and_left, List.cons.injEq, and_true, true_and, sc_ii, sc_ss, sc_bb, sc_ni, sc_in, sc_is, sc_si, sc_nn, decide_true, decide_false, reduceCtorEq, Bool.false_eq_true, if_true, if_false, ite_true, ite_false, exists_const, eq_self, false_and, and_false, or_false, false_or, exists_false, Evl.rLenS, rSum, wipe, tYes, exists_eq, exists_eq', rIxL, rIxT, rIxS, exists_and_right, gt_iff_lt, not_true_eq_false, not_false_eq_true, Bool.not_true, Bool.not_false, decide_eq_true_eq, Nat.reduceSub, Nat.reduceAdd, List.append_assoc, tChain, tDIn, tDNotIn, sDDel, tAug, ipI, rInt1_int, rInt1_bl]
          refine ⟨_, sq_l h21, _, atI_nat e2, x2, rfl, _, sq_t hx21, _, rfl, a2, rfl, _, .inr (sq_t ha21), ?_⟩
          rw [List.length_map]
          exact h
        · rintro i σ H2 hi ⟨c3', rfl, k2⟩
          try simp (maxSteps := 1000000) only [tSeq, tIfS, tTest, tOp, tUn, tCB, tCons, tNil, tVar, tC, rI0, rI, rU, rEq, rNe, tRet, tRetN, tAsg, gName, gSub, tBM, tBM0, tNext, tB, tNot, tAnd, tOr, tIf, tCall, tDrop, tBreak, tCont, L2.start, tDGet, sDPut, tTup, tLst, tDNewK, tRevL, rCat, rAppend, rPop, rSetL, tAndV, tOrV, tNotV, tSl, tPart, tNoPart, tM1, gTup, gCons, gNil, cxK, cxnK, List.map_cons, List.map_nil, List.length_cons, List.length_nil, List.replicate, List.cons_append, List.nil_append, List.append_nil, List.set_cons_zero, List.set_cons_succ, List.getElem?_cons_zero, List.getElem?_cons_succ, Option.some.injEq, V.ref.injEq, V.int.injEq, V.str.injEq, V.bl.injEq, V.ty.injEq, exists_eq_left', exists_eq_left, exists_and_left, List.cons.injEq, and_true, true_and, sc_ii, sc_ss, sc_bb, sc_ni, sc_in, sc_is, sc_si, sc_nn, decide_true, decide_false, reduceCtorEq, Bool.false_eq_true, if_true, if_false, ite_true, ite_false, exists_const, eq_self, false_and, and_false, or_false, false_or, exists_false, Evl.rLenS, rSum, wipe, tYes, exists_eq, exists_eq', rIxL, rIxT, rIxS, exists_and_right, gt_iff_lt, not_true_eq_false, not_false_eq_true, Bool.not_true, Bool.not_false, decide_eq_true_eq, Nat.reduceSub, Nat.reduceAdd, List.append_assoc, tChain, tDIn, tDNotIn, sDDel, tAug, ipI, rInt1_int, rInt1_bl]
          obtain ⟨z, ez⟩ : ∃ z, p.1[i]? = some z := ⟨_, List.getElem?_eq_getElem hi⟩
          have az : atI (p.1.map V.int) ((i : Nat) : Int) = some (.int z) := atI_nat (by rw [List.getElem?_map, ez]; rfl)
          refine ⟨_, sq_l (k2 _ _ not0 h11), _, atI_nat e1, x1, rfl, _, sq_t (k2 _ _ not0 hx11), _, rfl, a1, rfl, _, sq_t (k2 _ _ not0 ha11), _, az, _, sq_l (k2 _ _ not0 h21), _, atI_nat e2, x2, rfl, _, sq_t (k2 _ _ not0 hx21), _, rfl, a2, rfl, _, sq_t (k2 _ _ not0 ha21), _, az, z, z, rfl, _, rfl, ?_⟩
          rw [if_neg (by simp)]
          exact k2
        · rintro σ H2 ⟨c3', rfl, k2⟩
          exact ⟨⟨_, _, rfl⟩, k1.trans k2⟩
      · rintro σ H1 ⟨c2, c3, rfl, k1⟩
        try simp (maxSteps := 1000000) only [tSeq, tIfS, tTest, tOp, tUn, tCB, tCons, tNil, tVar, tC, rI0, rI, rU, rEq, rNe, tRet, tRetN, tAsg, gName, gSub, tBM, tBM0, tNext, tB, tNot, tAnd, tOr, tIf, tCall, tDrop, tBreak, tCont, L2.start, tDGet, sDPut, tTup, tLst, tDNewK, tRevL, rCat, rAppend, rPop, rSetL, tAndV, tOrV, tNotV, tSl, tPart, tNoPart, tM1, gTup, gCons, gNil, cxK, cxnK, List.map_cons, List.map_nil, List.length_cons, List.length_nil, List.replicate, List.cons_append, List.nil_append, List.append_nil, List.set_cons_zero, List.set_cons_succ, List.getElem?_cons_zero, List.getElem?_cons_succ, Option.some.injEq, V.ref.injEq, V.int.injEq, V.str.injEq, V.bl.injEq, V.ty.injEq, exists_eq_left', exists_eq_left, exists_and_left, List.cons.injEq, and_true, true_and, sc_ii, sc_ss, sc_bb, sc_ni, sc_in, sc_is, sc_si, sc_nn, decide_true, decide_false, reduceCtorEq, Bool.false_eq_true, if_true, if_false, ite_true, ite_false, exists_const, eq_self, false_and, and_false, or_false, false_or, exists_false, Evl.rLenS, rSum, wipe, tYes, exists_eq, exists_eq', rIxL, rIxT, rIxS, exists_and_right, gt_iff_lt, not_true_eq_false, not_false_eq_true, Bool.not_true, Bool.not_false, decide_eq_true_eq, Nat.reduceSub, Nat.reduceAdd, List.append_assoc, tChain, tDIn, tDNotIn, sDDel, tAug, ipI, rInt1_int, rInt1_bl]
        exact q H1 k1
end
end My

set_option Elab.async false
set_option linter.all false
set_option maxRecDepth 100000
set_option maxHeartbeats 4000000
namespace My
open PySem L2 NdefX StX
/-! ### good states, told by their parts; groups put together or turned -/
theorem good_mk {n m : Nat} {s : Cst} (h1 : s.2.length = n) (h2 : ∀ g ∈ s.1, 0 < g.length) (h3 : ∀ r ∈ s.2, 0 ≤ r ∧ r < (m : Nat)) (h4 : s.1.flatten.Perm (rgI (n : Nat))) : goodSt (n : Nat) (m : Nat) s = true := by
  have hb : ∀ x ∈ s.1.flatten, below (n : Nat) x = true := fun x hx => by
    have := h4.mem_iff.mp hx
    unfold rgI at this
    obtain ⟨i, hi, rfl⟩ := List.mem_map.mp this
    have := List.mem_range.mp hi
    unfold below
    rw [decide_eq_true (by omega), decide_eq_true (by omega)]
    rfl
  unfold goodSt goodGs
  simp only [Bool.and_eq_true, decide_eq_true_eq, List.all_eq_true, List.isPerm_iff]
  refine ⟨by rw [h1], ⟨h2, hb, h4⟩, fun r hr => ?_⟩
  have := h3 r hr
  unfold below
  rw [decide_eq_true this.1, decide_eq_true this.2]
  rfl
theorem ne_len : ∀ {gs : List (List Int)}, (∀ g ∈ gs, 0 < g.length) → gs.length ≤ gs.flatten.length
  | [], _ => Nat.le_refl _
  | g :: gs, h => by
    have h1 := h g List.mem_cons_self
    have h2 := ne_len fun x hx => h x (List.mem_cons_of_mem _ hx)
    rw [List.length_cons, List.flatten_cons, List.length_append]
    omega
theorem good_sz {n : Nat} {m : Int} {s : Cst} (h : goodSt (n : Nat) m s = true) (n3 : n ≤ 3) : SzSt s ∧ s.1.flatten.length = n ∧ s.1.length ≤ n := by
  obtain ⟨h1, h2, h3, h4⟩ := good_parts h (by omega)
  have h5 : s.1.flatten.length = n := by
    rw [h4.length_eq]
    unfold rgI
    simp
  have h6 := ne_len fun g hg => (h2 g hg).2
  exact ⟨⟨by omega, by omega, by omega⟩, h5, by omega⟩
theorem mrg_flat {gs : List (List Int)} {ds : List Int} (h : ∀ g ∈ gs, 0 < g.length) (h1 : 1 ≤ gs.length) : ∀ k, k < gs.length → (mrgR gs ds k).flatten = (gs.take (k + 1)).flatten ∧ ∀ g ∈ mrgR gs ds k, 0 < g.length
  | 0, _ => by
    show (gs.take 1).flatten = _ ∧ ∀ g ∈ gs.take 1, _
    exact ⟨rfl, fun g hg => h g (List.mem_of_mem_take hg)⟩
  | k + 1, hk => by
    obtain ⟨e1, e2⟩ := mrg_flat (ds := ds) h h1 k (by omega)
    obtain ⟨l, z, e, hl, hn⟩ := mrg_ex gs ds h1 k (by omega)
    have eg : gs[k + 1]? = some (gs.getD (k + 1) []) := by
      rw [List.getD_eq_getElem?_getD, List.getElem?_eq_getElem hk]
      rfl
    have hg := h _ (List.mem_of_getElem? eg)
    have et : (gs.take (k + 1 + 1)).flatten = (gs.take (k + 1)).flatten ++ gs.getD (k + 1) [] := by
      rw [List.take_add_one, eg]
      simp
    have eM : mrgR gs ds (k + 1) = if ds.getD (k + 1) 0 % 2 = 1 then (mrgR gs ds k).dropLast ++ [(mrgR gs ds k).getLastD [] ++ gs.getD (k + 1) []] else mrgR gs ds k ++ [gs.getD (k + 1) []] := rfl
    rw [et, ← e1, eM]
    rw [e] at e2 ⊢
    rw [List.dropLast_concat, List.getLastD_concat]
    split
    · refine ⟨by simp, fun g hg' => ?_⟩
      rcases List.mem_append.mp hg' with hg' | hg'
      · exact e2 g (List.mem_append_left _ hg')
      · rw [List.mem_singleton.mp hg', List.length_append]
        omega
    · refine ⟨by simp, fun g hg' => ?_⟩
      rcases List.mem_append.mp hg' with hg' | hg'
      · exact e2 g hg'
      · rw [List.mem_singleton.mp hg']
        exact hg
theorem slT {K : PySem.W.Frag} {H : Hp} {a : Addr} {xs : List V} {lo hi : Option Int} {Q : VK} (hx : H a = some (.tup xs)) (q : ∀ b H', H' b = some (.tup (cutV xs lo hi)) → Kp [] H H' → Q (.ref b) H') : rSlA K (.ref a) lo hi H Q := by
  refine ⟨a, xs, rfl, sq_t hx, fun h => q _ _ ?_ (Kp.refl _ _), fun _ p np => q _ _ upd_same (Kp.new np)⟩
  unfold cutV
  rw [h.1, h.2]
  simpa using hx
theorem catT {K : PySem.W.Frag} {H : Hp} {a b : Addr} {xs ys : List V} {Q : VK} (hx : H a = some (.tup xs)) (hy : H b = some (.tup ys)) (hl : xs.length + ys.length ≤ 1000) (q : ∀ c H', H' c = some (.tup (xs ++ ys)) → Kp [] H H' → Q (.ref c) H') : rCatA K (.ref a) (.ref b) H Q :=
  ⟨a, b, xs, ys, rfl, rfl, sq_t hx, sq_t hy, Nat.le_of_lt (smallL (by omega)), fun e => q _ _ (by rw [e]; exact hy) (Kp.refl _ _), fun _ e => q _ _ (by rw [e, List.append_nil]; exact hx) (Kp.refl _ _), fun _ _ p np => q _ _ upd_same (Kp.new np)⟩
theorem Rw.rev {α : Type} {R : V → α → Prop} {us : List V} {gs : List α} (h : Rw R us gs) : Rw R us.reverse gs.reverse := by
  refine ⟨by simp [h.len], fun {i u} e => ?_⟩
  have li : i < us.length := by
    have := (List.getElem?_eq_some_iff.mp e).1
    simpa using this
  rw [List.getElem?_reverse li] at e
  obtain ⟨g, eg, hg⟩ := h.get e
  rw [List.getElem?_reverse (by rw [← h.len]; exact li), ← h.len]
  exact ⟨g, eg, hg⟩
theorem Rw.dropA {α : Type} {R : V → α → Prop} {us : List V} {gs : List α} (h : Rw R us gs) (n : Nat) : Rw R (us.drop n) (gs.drop n) := ⟨by simp [h.len], fun {i u} e => by
  rw [List.getElem?_drop] at e ⊢
  exact h.get e⟩
end My

set_option Elab.async false
set_option linter.all false
set_option maxRecDepth 100000
set_option maxHeartbeats 4000000
namespace My
open PySem L2 NdefX StX
abbrev s_law_over : Stmt := top 24
theorem sc_law_over : FnScope ["_law_script", "_law_place", "_law_states", "_law_many", "_law_mode", "_law_head", "_law_copies", "_law_total", "_law_out", "_law_k", "_law_row_here", "_law_groups", "_law_after", "_law_lifted", "_law_one", "_law_at", "_law_part"] ["_law_script", "_law_place", "_law_states", "_law_many", "_law_mode", "_law_head"] (defScope s_law_over) := ⟨rfl, rfl, rfl, by decide +kernel, rfl, by decide +kernel, by decide +kernel⟩
def OvIn (sa sl hl ol : Addr) (place n C tot : Nat) (mode : Int) (H : Hp) (j : Nat) (σ : L2.St) (H' : Hp) : Prop := ∃ (us : List V) (sts : List Cst) (c9 c10 c11 c12 c13 : Option V), σ = [some (.ref sa), some (.int (place : Nat)), some (.ref sl), some (.int (n : Nat)), some (.int mode), some (.ref hl), some (.int (C : Nat)), some (.int (tot : Nat)), some (.ref ol), c9, c10, c11, c12, c13, none, none, none] ∧ H' ol = some (.lst us) ∧ Rw (TSt H') us sts ∧ sts.length = j ∧ (∀ s ∈ sts, goodSt (n : Nat) (tot : Nat) s = true) ∧ Kp [] H H'
def OvM (sa sl hl ol dl oa : Addr) (place n C tot : Nat) (mode : Int) (ds os : List Int) (us : List V) (sts : List Cst) (H : Hp) (j : Nat) (σ : L2.St) (H' : Hp) : Prop := ∃ (gv : V) (gs : List (List Int)) (c13 : Option V), σ = [some (.ref sa), some (.int (place : Nat)), some (.ref sl), some (.int (n : Nat)), some (.int mode), some (.ref hl), some (.int (C : Nat)), some (.int (tot : Nat)), some (.ref ol), some (.int (j : Nat)), some (.ref dl), some gv, some (.ref oa), c13, none, none, none] ∧ H' ol = some (.lst us) ∧ Rw (TSt H') us sts ∧ Kp [] H H' ∧ H' dl = some (.lst (ds.map V.int)) ∧ H' oa = some (.tup (os.map V.int)) ∧ TGs H' gv gs ∧ (∀ g ∈ gs, 0 < g.length) ∧ gs.flatten.Perm (rgI (n : Nat))
def OvE (sa sl hl ol : Addr) (place n C tot : Nat) (mode : Int) (us : List V) (sts : List Cst) (at_ : Nat) (H : Hp) (σ : L2.St) (H' : Hp) : Prop := ∃ (gv ov : V) (gs : List (List Int)) (os : List Int) (c9 c10 c13 : Option V), σ = [some (.ref sa), some (.int (place : Nat)), some (.ref sl), some (.int (n : Nat)), some (.int mode), some (.ref hl), some (.int (C : Nat)), some (.int (tot : Nat)), some (.ref ol), c9, c10, some gv, some ov, c13, none, some (.int (at_ : Nat)), none] ∧ H' ol = some (.lst us) ∧ Rw (TSt H') us sts ∧ Kp [] H H' ∧ TGs H' gv gs ∧ TI H' ov os ∧ (∀ g ∈ gs, 0 < g.length) ∧ gs.flatten.Perm (rgI (n : Nat)) ∧ os.length = n ∧ ∀ r ∈ os, 0 ≤ r ∧ r < (tot : Nat)
def OvZ (ol : Addr) (n tot : Nat) (sa sl hl : Addr) (place C : Nat) (mode : Int) (H : Hp) (σ : L2.St) (H' : Hp) : Prop := ∃ (us : List V) (sts : List Cst) (c9 c10 c11 c12 c13 c15 : Option V), σ = [some (.ref sa), some (.int (place : Nat)), some (.ref sl), some (.int (n : Nat)), some (.int mode), some (.ref hl), some (.int (C : Nat)), some (.int (tot : Nat)), some (.ref ol), c9, c10, c11, c12, c13, none, c15, none] ∧ H' ol = some (.lst us) ∧ Rw (TSt H') us sts ∧ sts.length = tot ∧ (∀ s ∈ sts, goodSt (n : Nat) (tot : Nat) s = true) ∧ Kp [] H H'
theorem filt_flat (x : List Int) : ([x].filter fun g => decide (0 < g.length)).flatten = x := by
  by_cases h : 0 < x.length
  · rw [List.filter_cons_of_pos (by simpa using h)]
    simp
  · rw [List.filter_cons_of_neg (by simpa using h)]
    have : x = [] := List.length_eq_zero_iff.mp (by omega)
    rw [this]
    rfl
theorem ifS_open {c : TT} {t u : TS} {D : Ends} {σ : L2.St} {H : Hp} (h : c σ H fun b H1 => if b = true then t D σ H1 else u D σ H1) : tIfS c t u D σ H := h
section
variable {P : Program} {w : World} {K : PySem.W.Frag} {mg : Str → Option Value} {base : Heap} {t1 t2 : Tok}
def spOver (K : PySem.W.Frag) : Sp := fun vs H Q _ => ∃ (sa sl hl : Addr) (place n : Nat) (mode : Int) (ns hd : List Int) (us : List V) (sts : List Cst), vs = [.ref sa, .int (place : Nat), .ref sl, .int (n : Nat), .int mode, .ref hl] ∧ Scr K H sa ns ∧ place ≤ 100 ∧ H sl = some (.lst us) ∧ Rw (TSt H) us sts ∧ GoodC (n : Nat) sts ∧ H hl = some (.lst (hd.map V.int)) ∧ hd.length = 10 ∧ (∀ d ∈ hd, 0 ≤ d ∧ d < 1000) ∧
  ∀ l us' sts' H', H l = none → H' l = some (.lst us') → Rw (TSt H') us' sts' → GoodC (n : Nat) sts' → Kp [] H H' → Q (.ref l) H'
theorem ok_law_over {f : Addr} {fd : FuncData} (D : Df K mg "_law_over" s_law_over ["_law_script", "_law_place", "_law_states", "_law_many", "_law_mode", "_law_head"] f fd) (T : BtW mg) {g1 : Addr} {gd1 : FuncData} (D_law_row : Df K mg "_law_row" s_law_row ["_law_cell_here", "_law_many"] g1 gd1) (G_law_row : FnOk P w K mg base CX0 1 g1 gd1 ["_law_cell_here", "_law_many"] spRow)
    {g2 : Addr} {gd2 : FuncData} (D_law_cell : Df K mg "_law_cell" s_law_cell ["_law_script", "_law_k"] g2 gd2) (G_law_cell : FnOk P w K mg base CX0 1 g2 gd2 ["_law_script", "_law_k"] (spCell K)) {g3 : Addr} {gd3 : FuncData} (D_law_merged : Df K mg "_law_merged" s_law_merged ["_law_groups", "_law_row_here"] g3 gd3) (G_law_merged : FnOk P w K mg base CX0 1 g3 gd3 ["_law_groups", "_law_row_here"] spMrg) : FnOk P w K mg base CX0 2 f fd ["_law_script", "_law_place", "_law_states", "_law_many", "_law_mode", "_law_head"] (spOver K) := by
  refine D.F.ok sc_law_over (fun vs H Q E h => ?_) (fun cdv A outer s H vs Q E hr h => ?_)
  · obtain ⟨_, _, _, _, _, _, _, _, _, _, rfl, _⟩ := h
    rfl
  · obtain ⟨sa, sl, hl, place, n, mode, ns, hd, us, sts, rfl, hS, pl, hsl, hus, hG, hhl, hdl, hdb, q⟩ := h
    have hu := hu_of hr
    refine ⟨_, (pss_cons (ps_set (i := 6) sc_law_over.nd rfl (Or.inr rfl) (pe_op op_add pe_int (pe_op op_mod (pe_callTy (T := "int") (r := rInt1) call_int1 (by rfl) T.b_int (by decide +kernel) (pa_cons (pe_ix (r := rIxL K) ix_list (pv 5) pe_int (fun _ _ => rfl)) pa_nil)) (pe_op op_fdiv pe_int (pe_callB (id := "len") (r := Evl.rLenS K) call_len_seq (by rfl) T.b_len PySem.boot_len (pa_cons (pv 2) pa_nil))))))
      (pss_cons (ps_set (i := 7) sc_law_over.nd rfl (Or.inr rfl) (pe_op op_mul (pe_callB (id := "len") (r := Evl.rLenS K) call_len_seq (by rfl) T.b_len PySem.boot_len (pa_cons (pv 2) pa_nil)) (pv 6)))
      (pss_cons (ps_set (i := 8) sc_law_over.nd rfl (Or.inl rfl) (pe_lst pa_nil))
      (pss_cons (ps_for PassesOwn.never rfl (pi_range1 rfl T.b_range (pa_cons (pv 7) pa_nil)) (pg_name (i := 9) sc_law_over.nd rfl (Or.inl rfl)) (pss_cons (ps_set (i := 10) sc_law_over.nd rfl (Or.inr rfl) (pe_call G_law_row (hr.mono (by decide)) rfl D_law_row.g D_law_row.F.kp D_law_row.b .nil pass0 (pa_cons (pe_call G_law_cell (hr.mono (by decide)) rfl D_law_cell.g D_law_cell.F.kp D_law_cell.b .nil pass0 (pa_cons (pv 0) (pa_cons (pe_op op_add (pv 1) (pv 9)) pa_nil))) (pa_cons pe_int pa_nil))))
      (pss_cons (ps_asg (pe_ix (r := rIxL K) ix_list (pv 2) (pe_op op_mod (pe_callTy (T := "int") (r := rInt1) call_int1 (by rfl) T.b_int (by decide +kernel) (pa_cons (pv 9) pa_nil)) (pe_callB (id := "len") (r := Evl.rLenS K) call_len_seq (by rfl) T.b_len PySem.boot_len (pa_cons (pv 2) pa_nil))) (fun _ _ => rfl)) (pg_tup (n := 2) (by rfl) (pgs_cons (pg_name (i := 11) sc_law_over.nd rfl (Or.inl rfl)) (pgs_cons (pg_name (i := 12) sc_law_over.nd rfl (Or.inr rfl)) pgs_nil))))
      (pss_cons (ps_if (pt_cmpR op_eq (pv 4) pe_int (nomark _)) (pss_one (ps_set (i := 11) sc_law_over.nd rfl (Or.inl rfl) (pe_call G_law_merged (hr.mono (by decide)) rfl D_law_merged.g D_law_merged.F.kp D_law_merged.b .nil pass0 (pa_cons (pv 11) (pa_cons (pv 10) pa_nil))))) pss_nil)
      (pss_cons (ps_setLc (i := 13) (own := [("_law_one", 14)]) (g := (gName 14)) (tt := tYes) rfl sc_law_over.nd rfl rfl (sw_true rfl rfl rfl (by decide +kernel)) (pi_range1 rfl T.b_range (pa_cons (pv 3) pa_nil)) (blkOk_by (N := ["_law_script", "_law_place", "_law_states", "_law_many", "_law_mode", "_law_head", "_law_copies", "_law_total", "_law_out", "_law_k", "_law_row_here", "_law_groups", "_law_after", "_law_lifted", "_law_one", "_law_at", "_law_part"]) (sc := defScope s_law_over) (by decide +kernel)) (fun _ _ _ _ _ => (pg_name (i := 14) sc_law_over.nd rfl (Or.inl rfl))) (fun _ _ _ _ _ => pts_nil) (fun _ _ _ _ _ => (pe_op op_add (pe_ix (r := rIxT K) ix_tup (pv 12) (pv 14) (fun _ _ => rfl)) (pe_op op_mul (pe_callB (id := "len") (r := Evl.rLenS K) call_len_seq (by rfl) T.b_len PySem.boot_len (pa_cons (pv 2) pa_nil)) (pe_op op_mod (pe_callTy (T := "int") (r := rInt1) call_int1 (by rfl) T.b_int (by decide +kernel) (pa_cons (pe_ix (r := rIxL K) ix_list (pv 10) (pe_op op_add pe_int (pv 14)) (fun _ _ => rfl)) pa_nil)) (pv 6))))))
      (pss_one (ps_expr (pe_bm PySem.F.plainAttrs_list PySem.F.slot_list_append PySem.F.type_list_append mt_append (pv 8) (pa_cons (pe_tup (pa_cons (pv 11) (pa_cons (pe_callTy call_tuple_of (by rfl) T.b_tuple (by decide +kernel) (pa_cons (pv 13) pa_nil)) pa_nil))) pa_nil)))))))))
      (pss_cons (ps_if (pt_cmpR op_eq (pv 4) pe_int (nomark _)) (pss_cons (ps_set (i := 15) sc_law_over.nd rfl (Or.inl rfl) (pe_op op_mod (pe_callTy (T := "int") (r := rInt1) call_int1 (by rfl) T.b_int (by decide +kernel) (pa_cons (pe_ix (r := rIxT K) ix_tup (pe_tup (pa_cons (pe_ix (r := rIxL K) ix_list (pv 5) pe_int (fun _ _ => rfl)) (pa_cons (pe_op op_sub (pv 7) pe_int) pa_nil))) (pe_op op_mod (pe_callTy (T := "int") (r := rInt1) call_int1 (by rfl) T.b_int (by decide +kernel) (pa_cons (pe_ix (r := rIxL K) ix_list (pv 5) pe_int (fun _ _ => rfl)) pa_nil)) pe_int) (fun _ _ => rfl)) pa_nil)) (pv 7)))
      (pss_cons (ps_asg (pe_ix (r := rIxL K) ix_list (pv 8) (pv 15) (fun _ _ => rfl)) (pg_tup (n := 2) (by rfl) (pgs_cons (pg_name (i := 11) sc_law_over.nd rfl (Or.inl rfl)) (pgs_cons (pg_name (i := 12) sc_law_over.nd rfl (Or.inr rfl)) pgs_nil))))
      (pss_cons (ps_if (pt_cmpR op_eq (pe_op op_mod (pe_callTy (T := "int") (r := rInt1) call_int1 (by rfl) T.b_int (by decide +kernel) (pa_cons (pe_ix (r := rIxL K) ix_list (pv 5) pe_int (fun _ _ => rfl)) pa_nil)) pe_int) pe_int (nomark _)) (pss_one (ps_set (i := 11) sc_law_over.nd rfl (Or.inl rfl) (pe_revT (pv 11)))) (pss_one (ps_if (pt_cmpR op_eq (pe_op op_mod (pe_callTy (T := "int") (r := rInt1) call_int1 (by rfl) T.b_int (by decide +kernel) (pa_cons (pe_ix (r := rIxL K) ix_list (pv 5) pe_int (fun _ _ => rfl)) pa_nil)) pe_int) pe_int (nomark _)) (pss_one (ps_set (i := 11) sc_law_over.nd rfl (Or.inl rfl) (pe_op op_catA (pe_op op_catA (pe_tup (pa_cons (pe_slice sl_tupA (pe_ix (r := rIxT K) ix_tup (pv 11) pe_int (fun _ _ => rfl)) po_none (po_some pe_int)) pa_nil)) (pe_callTy call_tuple_of (by rfl) T.b_tuple (by decide +kernel) (pa_cons (pe_lc (own := [("_law_part", 16)]) (g := (gName 16)) rfl sc_law_over.nd (pi_tup (pe_tup (pa_cons (pe_slice sl_tupA (pe_ix (r := rIxT K) ix_tup (pv 11) pe_int (fun _ _ => rfl)) (po_some pe_int) po_none) pa_nil))) (blkOk_by (N := ["_law_script", "_law_place", "_law_states", "_law_many", "_law_mode", "_law_head", "_law_copies", "_law_total", "_law_out", "_law_k", "_law_row_here", "_law_groups", "_law_after", "_law_lifted", "_law_one", "_law_at", "_law_part"]) (sc := defScope s_law_over) (by decide +kernel)) (fun _ _ _ _ _ => (pg_name (i := 16) sc_law_over.nd rfl (Or.inl rfl))) (fun _ _ _ _ _ => (pts_one (pt_cmpR op_gt (pe_callB (id := "len") (r := Evl.rLenS K) call_len_seq (by rfl) T.b_len PySem.boot_len (pa_cons (pv 16) pa_nil)) pe_int (nomark _)))) (fun _ _ _ _ _ => (pv 16))) pa_nil))) (pe_slice sl_tupA (pv 11) (po_some pe_int) po_none)))) (pss_one (ps_set (i := 12) sc_law_over.nd rfl (Or.inr rfl) (pe_callTy call_tuple_of (by rfl) T.b_tuple (by decide +kernel) (pa_cons (pe_lc (own := [("_law_one", 14)]) (g := (gName 14)) (tt := tYes) rfl sc_law_over.nd (pi_range1 rfl T.b_range (pa_cons (pv 3) pa_nil)) (blkOk_by (N := ["_law_script", "_law_place", "_law_states", "_law_many", "_law_mode", "_law_head", "_law_copies", "_law_total", "_law_out", "_law_k", "_law_row_here", "_law_groups", "_law_after", "_law_lifted", "_law_one", "_law_at", "_law_part"]) (sc := defScope s_law_over) (by decide +kernel)) (fun _ _ _ _ _ => (pg_name (i := 14) sc_law_over.nd rfl (Or.inl rfl))) (fun _ _ _ _ _ => pts_nil) (fun _ _ _ _ _ => (pe_op op_mod (pe_callTy (T := "int") (r := rInt1) call_int1 (by rfl) T.b_int (by decide +kernel) (pa_cons (pe_op op_add (pe_ix (r := rIxL K) ix_list (pv 5) pe_int (fun _ _ => rfl)) (pe_op op_mul (pv 14) (pe_ix (r := rIxL K) ix_list (pv 5) pe_int (fun _ _ => rfl)))) pa_nil)) (pv 7)))) pa_nil)))))))
      (pss_one (ps_asg (pe_tup (pa_cons (pv 11) (pa_cons (pv 12) pa_nil))) (pg_sub (pv 8) (pv 15) set_list)))))) pss_nil)
      (pss_one (ps_ret (pv 8)))))))), ?_⟩
    try simp (maxSteps := 1000000) only [tSeq, tIfS, tTest, tOp, tUn, tCB, tCons, tNil, tVar, tC, rI0, rI, rU, rEq, rNe, tRet, tRetN, tAsg, gName, gSub, tBM, tBM0, tNext, tB, tNot, tAnd, tOr, tIf, tCall, tDrop, tBreak, tCont, L2.start, tDGet, sDPut, tTup, tLst, tDNewK, tRevL, rCat, rAppend, rPop, rSetL, tAndV, tOrV, tNotV, tSl, tPart, tNoPart, tM1, gTup, gCons, gNil, cxK, cxnK, List.map_cons, List.map_nil, List.length_cons, List.length_nil, List.replicate, List.cons_append, List.nil_append, List.append_nil, List.set_cons_zero, List.set_cons_succ, List.getElem?_cons_zero, List.getElem?_cons_succ, Option.some.injEq, V.ref.injEq, V.int.injEq, V.str.injEq, V.bl.injEq, V.ty.injEq, exists_eq_left', exists_eq_left, exists_and_left, List.cons.injEq, and_true, true_and, sc_ii, sc_ss, sc_bb, sc_ni, sc_in, sc_is, sc_si, sc_nn, decide_true, decide_false, reduceCtorEq, Bool.false_eq_true, if_true, if_false, ite_true, ite_false, exists_const, eq_self, false_and, and_false, or_false, false_or, exists_false, Evl.rLenS, rSum, wipe, tYes, exists_eq, exists_eq', rIxL, rIxT, rIxS, exists_and_right, gt_iff_lt, not_true_eq_false, not_false_eq_true, Bool.not_true, Bool.not_false, decide_eq_true_eq, Nat.reduceSub, Nat.reduceAdd, List.append_assoc, tChain, tDIn, tDNotIn, sDDel, tAug, ipI, rInt1_int, rInt1_bl]
    have n1 : 1 ≤ n := by have := hG.1; omega
    have n3 : n ≤ 3 := by have := hG.2.1; omega
    have L1 := hG.2.2.1
    have L12 := hG.2.2.2.1
    have hh : ∀ m : Nat, m < 10 → ∃ d, (∀ H', Kp [] H H' → SqL K H' hl (hd.map V.int)) ∧ atI (hd.map V.int) (m : Nat) = some (.int d) ∧ 0 ≤ d ∧ d < 1000 := fun m hm => by
      have e : hd[m]? = some (hd[m]'(by omega)) := List.getElem?_eq_getElem (by omega)
      exact ⟨_, fun H' k => sq_l (k _ _ not0 hhl), atI_nat (by rw [List.getElem?_map, e]; rfl), hdb _ (List.getElem_mem _)⟩
    obtain ⟨d4, hh4, a4, d40, d41⟩ := hh 4 (by omega)
    obtain ⟨d5, hh5, a5, d50, d51⟩ := hh 5 (by omega)
    obtain ⟨d6, hh6, a6, d60, d61⟩ := hh 6 (by omega)
    obtain ⟨d7, hh7, a7, d70, d71⟩ := hh 7 (by omega)
    obtain ⟨d8, hh8, a8, d80, d81⟩ := hh 8 (by omega)
    refine ⟨_, hh4 _ (Kp.refl _ _), _, a4, ?_⟩
    rw [rInt1_int]
    refine ⟨_, .inl (sq_l hsl), ?_⟩
    rw [hus.len]
    obtain ⟨qn, eqn, q1, qL⟩ : ∃ qn : Nat, (12 : Int) / (sts.length : Nat) = (qn : Nat) ∧ 1 ≤ qn ∧ sts.length * qn ≤ 12 := by
      refine ⟨12 / sts.length, by simp, ?_, Nat.mul_div_le _ _⟩
      exact (Nat.one_le_div_iff (by omega)).mpr L12
    obtain ⟨C, eC, C1, Cq⟩ : ∃ C : Nat, 1 + d4 % (qn : Nat) = (C : Nat) ∧ 1 ≤ C ∧ C ≤ qn := by
      have h1 := Int.emod_nonneg d4 (b := (qn : Nat)) (by omega)
      have h2 := Int.emod_lt_of_pos d4 (b := (qn : Nat)) (by omega)
      exact ⟨(1 + d4 % (qn : Nat)).toNat, by omega, by omega, by omega⟩
    have totL : sts.length * C ≤ 12 := Nat.le_trans (Nat.mul_le_mul_left _ Cq) qL
    have tot1 : 1 ≤ sts.length * C := Nat.mul_pos L1 C1
    refine ⟨⟨by omega, by omega⟩, _, rfl, by omega, _, .inl (sq_l hsl), ?_⟩
    rw [hus.len, eqn, eC]
    refine ⟨.inl ⟨by omega, by omega⟩, Nat.zero_le _, fun ol nol => ?_⟩
    have etot : ((sts.length : Nat) : Int) * (C : Nat) = ((sts.length * C : Nat) : Int) := by rw [Int.natCast_mul]
    rw [etot]
    generalize htot : sts.length * C = tot at *
    refine for_both (fun σ H' => OvIn sa sl hl ol place n C tot mode H tot σ H') (fun Dn hDn => ?_) fun σ H' h => ?_
    · refine forN tot (by omega) (OvIn sa sl hl ol place n C tot mode H) (fun R h => ⟨_, rfl, h⟩) ⟨[], [], _, _, _, _, _, rfl, upd_same, .nil, rfl, (fun s hs => nomatch hs), Kp.new nol⟩ ?_ fun σ H' h => hDn _ _ h
      rintro j σ H1 hj ⟨us1, sts1, c9, c10, c11, c12, c13, rfl, hol, hus1, sl1, sg1, k1⟩
      try simp (maxSteps := 1000000) only [tSeq, tTest, tOp, tUn, tCB, tCons, tNil, tVar, tC, rI0, rI, rU, rEq, rNe, tRet, tRetN, tAsg, gName, gSub, tBM, tBM0, tNext, tB, tNot, tAnd, tOr, tIf, tCall, tDrop, tBreak, tCont, L2.start, tDGet, sDPut, tTup, tLst, tDNewK, tRevL, rCat, rAppend, rPop, rSetL, tAndV, tOrV, tNotV, tSl, tPart, tNoPart, tM1, gTup, gCons, gNil, cxK, cxnK, List.map_cons, List.map_nil, List.length_cons, List.length_nil, List.replicate, List.cons_append, List.nil_append, List.append_nil, List.set_cons_zero, List.set_cons_succ, List.getElem?_cons_zero, List.getElem?_cons_succ, Option.some.injEq, V.ref.injEq, V.int.injEq, V.str.injEq, V.bl.injEq, V.ty.injEq, exists_eq_left', exists_eq_left, exists_and_left, List.cons.injEq, and_true, true_and, sc_ii, sc_ss, sc_bb, sc_ni, sc_in, sc_is, sc_si, sc_nn, decide_true, decide_false, reduceCtorEq, Bool.false_eq_true, if_true, if_false, ite_true, ite_false, exists_const, eq_self, false_and, and_false, or_false, false_or, exists_false, Evl.rLenS, rSum, wipe, tYes, exists_eq, exists_eq', rIxL, rIxT, rIxS, exists_and_right, gt_iff_lt, not_true_eq_false, not_false_eq_true, Bool.not_true, Bool.not_false, decide_eq_true_eq, Nat.reduceSub, Nat.reduceAdd, List.append_assoc, tChain, tDIn, tDNotIn, sDDel, tAug, ipI, rInt1_int, rInt1_bl]
      refine ⟨sa, _, ns, rfl, hS.kp k1, by omega, by omega, fun c H2 k2 => ⟨c, 9, rfl, by omega, fun dl ds H3 ndl hdl dlen db k3 => ?_⟩⟩
      have k23 := k2.trans k3
      have k13 := k1.trans k23
      obtain ⟨i, ei, il⟩ : ∃ i : Nat, ((j : Nat) : Int) % (sts.length : Nat) = (i : Nat) ∧ i < sts.length := ⟨j % sts.length, by omega, Nat.mod_lt _ L1⟩
      have gst := hG.2.2.2.2 _ (List.getElem_mem il)
      obtain ⟨sv, esv, ta, gv, ov, rfl, hta, hgv, hov⟩ := hus.at (i := i) (g := sts[i]) (List.getElem?_eq_getElem il)
      generalize sts[i] = st at gst hgv hov
      obtain ⟨gp1, gp2, gp3, gp4⟩ := good_parts gst (by omega)
      obtain ⟨gz, gfl, gln⟩ := good_sz gst n3
      obtain ⟨oa, rfl, hoa⟩ := hov
      have hta3 := k13 _ _ not0 hta
      refine ⟨_, .inl (sq_l (k13 _ _ not0 hsl)), ?_⟩
      rw [hus.len, ei]
      refine ⟨by omega, _, sq_l (k13 _ _ not0 hsl), _, atI_nat esv, ta, rfl, _, sq_t hta3, rfl, _, _, rfl, _, _, rfl, rfl, ?_⟩
      have gl1 : 1 ≤ st.1.length := by
        cases e : st.1 with
        | nil => rw [e] at gfl; simp at gfl; omega
        | cons g r => simp
      have hgv3 := hgv.tp k13.tps
      have hoa3 := k13 _ _ not0 hoa
      have hol3 := k23 _ _ not0 hol
      have hus3 := hus1.mono fun _ _ z => z.tp k23.tps
      have okM : ∀ gs : List (List Int), (∀ g ∈ gs, 0 < g.length) → gs.flatten.Perm (rgI (n : Nat)) → ∀ os' : List Int, os'.length = n → (∀ r ∈ os', 0 ≤ r ∧ r < (tot : Nat)) → goodSt (n : Nat) (tot : Nat) (gs, os') = true := fun gs h1 h2 os' h3 h4 => good_mk h3 h1 h4 h2
      refine ifs_both (OvM sa sl hl ol dl oa place n C tot mode ds st.2 us1 sts1 H j) (fun Dm hDm => ?_) fun σ' H' h => ?_
      · try simp (maxSteps := 1000000) only [tSeq, tIfS, tTest, tOp, tUn, tCB, tCons, tNil, tVar, tC, rI0, rI, rU, rEq, rNe, tRet, tRetN, tAsg, gName, gSub, tBM, tBM0, tNext, tB, tNot, tAnd, tOr, tIf, tCall, tDrop, tBreak, tCont, L2.start, tDGet, sDPut, tTup, tLst, tDNewK, tRevL, rCat, rAppend, rPop, rSetL, tAndV, tOrV, tNotV, tSl, tPart, tNoPart, tM1, gTup, gCons, gNil, cxK, cxnK, List.map_cons, List.map_nil, List.length_cons, List.length_nil, List.replicate, List.cons_append, List.nil_append, List.append_nil, List.set_cons_zero, List.set_cons_succ, List.getElem?_cons_zero, List.getElem?_cons_succ, Option.some.injEq, V.ref.injEq, V.int.injEq, V.str.injEq, V.bl.injEq, V.ty.injEq, exists_eq_left', exists_eq_left, exists_and_left, List.cons.injEq, and_true, true_and, sc_ii, sc_ss, sc_bb, sc_ni, sc_in, sc_is, sc_si, sc_nn, decide_true, decide_false, reduceCtorEq, Bool.false_eq_true, if_true, if_false, ite_true, ite_false, exists_const, eq_self, false_and, and_false, or_false, false_or, exists_false, Evl.rLenS, rSum, wipe, tYes, exists_eq, exists_eq', rIxL, rIxT, rIxS, exists_and_right, gt_iff_lt, not_true_eq_false, not_false_eq_true, Bool.not_true, Bool.not_false, decide_eq_true_eq, Nat.reduceSub, Nat.reduceAdd, List.append_assoc, tChain, tDIn, tDNotIn, sDDel, tAug, ipI, rInt1_int, rInt1_bl]
        by_cases hm : mode = 2
        · rw [if_pos hm]
          refine ⟨gv, dl, st.1, ds, rfl, hgv3, hdl, gl1, by omega, by omega, by omega, fun u H4 hu4 k4 => ?_⟩
          obtain ⟨mf, mn⟩ := mrg_flat (ds := ds) (fun g hg => (gp2 g hg).2) gl1 (st.1.length - 1) (by omega)
          rw [show st.1.length - 1 + 1 = st.1.length by omega, List.take_length] at mf
          exact hDm _ _ ⟨u, _, _, rfl, k4 _ _ not0 hol3, hus3.mono fun _ _ z => z.tp k4.tps, k13.trans k4, k4 _ _ not0 hdl, k4 _ _ not0 hoa3, hu4, mn, by rw [mf]; exact gp4⟩
        · rw [if_neg hm]
          exact hDm _ _ ⟨gv, st.1, _, rfl, hol3, hus3, k13, hdl, hoa3, hgv3, fun g hg => (gp2 g hg).2, gp4⟩
      · obtain ⟨gv', gs', c13', rfl, hol4, hus4, k4, hdl4, hoa4, hgv4, gn4, gp4'⟩ := h
        try simp (maxSteps := 1000000) only [tSeq, tIfS, tTest, tOp, tUn, tCB, tCons, tNil, tVar, tC, rI0, rI, rU, rEq, rNe, tRet, tRetN, tAsg, gName, gSub, tBM, tBM0, tNext, tB, tNot, tAnd, tOr, tIf, tCall, tDrop, tBreak, tCont, L2.start, tDGet, sDPut, tTup, tLst, tDNewK, tRevL, rCat, rAppend, rPop, rSetL, tAndV, tOrV, tNotV, tSl, tPart, tNoPart, tM1, gTup, gCons, gNil, cxK, cxnK, List.map_cons, List.map_nil, List.length_cons, List.length_nil, List.replicate, List.cons_append, List.nil_append, List.append_nil, List.set_cons_zero, List.set_cons_succ, List.getElem?_cons_zero, List.getElem?_cons_succ, Option.some.injEq, V.ref.injEq, V.int.injEq, V.str.injEq, V.bl.injEq, V.ty.injEq, exists_eq_left', exists_eq_left, exists_and_left, List.cons.injEq, and_true, true_and, sc_ii, sc_ss, sc_bb, sc_ni, sc_in, sc_is, sc_si, sc_nn, decide_true, decide_false, reduceCtorEq, Bool.false_eq_true, if_true, if_false, ite_true, ite_false, exists_const, eq_self, false_and, and_false, or_false, false_or, exists_false, Evl.rLenS, rSum, wipe, tYes, exists_eq, exists_eq', rIxL, rIxT, rIxS, exists_and_right, gt_iff_lt, not_true_eq_false, not_false_eq_true, Bool.not_true, Bool.not_false, decide_eq_true_eq, Nat.reduceSub, Nat.reduceAdd, List.append_assoc, tChain, tDIn, tDNotIn, sDDel, tAug, ipI, rInt1_int, rInt1_bl]
        have osl : st.2.length = n := by omega
        refine lcRgF n (by omega) (fun _ v (x : Int) => v = .int x) (fun o => st.2.getD o 0 + ((sts.length : Nat) : Int) * (ds.getD (3 + o) 0 % (C : Nat))) (fun _ _ _ _ _ h => h) (by simp) (fun R h => ⟨_, rfl, h⟩) (fun o H5 Q' ho k5 q' => ?_) fun D ws H5 nD hD hws k5 => ?_
        · try simp (maxSteps := 1000000) only [tSeq, tIfS, tTest, tOp, tUn, tCB, tCons, tNil, tVar, tC, rI0, rI, rU, rEq, rNe, tRet, tRetN, tAsg, gName, gSub, tBM, tBM0, tNext, tB, tNot, tAnd, tOr, tIf, tCall, tDrop, tBreak, tCont, L2.start, tDGet, sDPut, tTup, tLst, tDNewK, tRevL, rCat, rAppend, rPop, rSetL, tAndV, tOrV, tNotV, tSl, tPart, tNoPart, tM1, gTup, gCons, gNil, cxK, cxnK, List.map_cons, List.map_nil, List.length_cons, List.length_nil, List.replicate, List.cons_append, List.nil_append, List.append_nil, List.set_cons_zero, List.set_cons_succ, List.getElem?_cons_zero, List.getElem?_cons_succ, Option.some.injEq, V.ref.injEq, V.int.injEq, V.str.injEq, V.bl.injEq, V.ty.injEq, exists_eq_left', exists_eq_left, exists_and_left, List.cons.injEq, and_true, true_and, sc_ii, sc_ss, sc_bb, sc_ni, sc_in, sc_is, sc_si, sc_nn, decide_true, decide_false, reduceCtorEq, Bool.false_eq_true, if_true, if_false, ite_true, ite_false, exists_const, eq_self, false_and, and_false, or_false, false_or, exists_false, Evl.rLenS, rSum, wipe, tYes, exists_eq, exists_eq', rIxL, rIxT, rIxS, exists_and_right, gt_iff_lt, not_true_eq_false, not_false_eq_true, Bool.not_true, Bool.not_false, decide_eq_true_eq, Nat.reduceSub, Nat.reduceAdd, List.append_assoc, tChain, tDIn, tDNotIn, sDDel, tAug, ipI, rInt1_int, rInt1_bl]
          obtain ⟨z, ez⟩ : ∃ z, st.2[o]? = some z := ⟨_, List.getElem?_eq_getElem (by omega)⟩
          obtain ⟨y, ey⟩ : ∃ y, ds[3 + o]? = some y := ⟨_, List.getElem?_eq_getElem (by omega)⟩
          refine ⟨_, sq_t (k5 _ _ not0 hoa4), .int z, atI_nat (by rw [List.getElem?_map, ez]; rfl), ?_⟩
          have a3 : atI (ds.map V.int) (3 + ((o : Nat) : Int)) = some (.int y) := by
            rw [show (3 : Int) + ((o : Nat) : Int) = ((3 + o : Nat) : Int) by omega]
            exact atI_nat (by rw [List.getElem?_map, ey]; rfl)
          refine ⟨_, .inl (sq_l ((k4.trans k5) _ _ not0 hsl)), _, sq_l (k5 _ _ not0 hdl4), .int y, a3, ?_⟩
          rw [rInt1_int, hus.len]
          refine ⟨_, rfl, by omega, .inl ⟨by omega, by omega⟩, z, rfl, q' _ _ ?_ (Kp.refl _ _)⟩
          have z1 : st.2.getD o 0 = z := by rw [List.getD_eq_getElem?_getD, ez]; rfl
          have y1 : ds.getD (3 + o) 0 = y := by rw [List.getD_eq_getElem?_getD, ey]; rfl
          rw [z1, y1]
        · have ew := rwInts_eq hws
          subst ew
          have hol5 := k5 _ _ not0 hol4
          generalize exs : ((List.range n).map fun o => st.2.getD o 0 + ((sts.length : Nat) : Int) * (ds.getD (3 + o) 0 % (C : Nat))) = xs at hD
          have xl : xs.length = n := by rw [← exs]; simp
          have xb : ∀ r ∈ xs, 0 ≤ r ∧ r < (tot : Nat) := fun r hr => by
            rw [← exs] at hr
            obtain ⟨o, ho, rfl⟩ := List.mem_map.mp hr
            have ho := List.mem_range.mp ho
            have ez : st.2[o]? = some (st.2.getD o 0) := by
              rw [List.getD_eq_getElem?_getD, List.getElem?_eq_getElem (by omega)]
              rfl
            have zb := gp3 _ (List.mem_of_getElem? ez)
            have m1 := Int.emod_nonneg (ds.getD (3 + o) 0) (b := (C : Nat)) (by omega)
            have m2 := Int.emod_lt_of_pos (ds.getD (3 + o) 0) (b := (C : Nat)) (by omega)
            generalize ds.getD (3 + o) 0 % (C : Nat) = mm at m1 m2 ⊢
            obtain ⟨mn, rfl⟩ : ∃ mn : Nat, mm = mn := ⟨mm.toNat, by omega⟩
            have h1 : sts.length * mn + sts.length ≤ tot := by
              rw [← htot, ← Nat.mul_succ]
              exact Nat.mul_le_mul_left _ (by omega)
            have h2 : ((sts.length : Nat) : Int) * (mn : Nat) = ((sts.length * mn : Nat) : Int) := by rw [Int.natCast_mul]
            rw [h2]
            omega
          refine ⟨.inl ⟨rfl, _, sq_l hol5⟩, D, rfl, _, .inl ⟨sq_l hD, fun t nt => ⟨small (by decide), fun u nu => ?_⟩⟩⟩
          have kt := (Kp.new nt : Kp [] H5 (upd H5 t (.tup (xs.map V.int))))
          have ht : TI (upd H5 t (.tup (xs.map V.int))) (.ref t) xs := ⟨t, rfl, upd_same⟩
          generalize upd H5 t (.tup (xs.map V.int)) = H6 at kt ht nu ⊢
          have kk := k5.trans kt
          have hS2 := TSt.make (hgv4.tp kk.tps) ht nu
          have ku := (Kp.new nu : Kp [] H6 (upd H6 u (.tup [gv', .ref t])))
          generalize upd H6 u (.tup [gv', .ref t]) = H7 at hS2 ku ⊢
          have hol7 := (kt.trans ku) _ _ not0 hol5
          have tp : Tp H7 (upd H7 ol (.lst (us1 ++ [.ref u]))) := (Tp.refl _).putL hol7
          have kz := (kk.trans ku)
          refine ⟨us1, hol7, by rw [hus4.len, sl1]; exact smallL (by omega), us1 ++ [.ref u], sts1 ++ [(gs', xs)], _, _, _, _, _, rfl, upd_same, (hus4.mono fun _ _ z => z.tp (kz.tps.trans tp)).snoc (hS2.tp tp), by rw [List.length_append, sl1]; rfl, fun s hs => ?_, (k4.trans kz).wr nol⟩
          rcases List.mem_append.mp hs with hs | hs
          · exact sg1 s hs
          · rw [List.mem_singleton.mp hs]
            exact okM gs' gn4 gp4' xs xl xb
    · dsimp only
      obtain ⟨us1, sts1, c9, c10, c11, c12, c13, rfl, hol, hus1, sl1, sg1, k1⟩ := h
      try simp (maxSteps := 1000000) only [tSeq, tTest, tOp, tUn, tCB, tCons, tNil, tVar, tC, rI0, rI, rU, rEq, rNe, tRet, tRetN, tAsg, gName, gSub, tBM, tBM0, tNext, tB, tNot, tAnd, tOr, tIf, tCall, tDrop, tBreak, tCont, L2.start, tDGet, sDPut, tTup, tLst, tDNewK, tRevL, rCat, rAppend, rPop, rSetL, tAndV, tOrV, tNotV, tSl, tPart, tNoPart, tM1, gTup, gCons, gNil, cxK, cxnK, List.map_cons, List.map_nil, List.length_cons, List.length_nil, List.replicate, List.cons_append, List.nil_append, List.append_nil, List.set_cons_zero, List.set_cons_succ, List.getElem?_cons_zero, List.getElem?_cons_succ, Option.some.injEq, V.ref.injEq, V.int.injEq, V.str.injEq, V.bl.injEq, V.ty.injEq, exists_eq_left', exists_eq_left, exists_and_left, List.cons.injEq, and_true, true_and, sc_ii, sc_ss, sc_bb, sc_ni, sc_in, sc_is, sc_si, sc_nn, decide_true, decide_false, reduceCtorEq, Bool.false_eq_true, if_true, if_false, ite_true, ite_false, exists_const, eq_self, false_and, and_false, or_false, false_or, exists_false, Evl.rLenS, rSum, wipe, tYes, exists_eq, exists_eq', rIxL, rIxT, rIxS, exists_and_right, gt_iff_lt, not_true_eq_false, not_false_eq_true, Bool.not_true, Bool.not_false, decide_eq_true_eq, Nat.reduceSub, Nat.reduceAdd, List.append_assoc, tChain, tDIn, tDNotIn, sDDel, tAug, ipI, rInt1_int, rInt1_bl]
      have stL : ∀ sts1 : List Cst, sts1.length = tot → (∀ s ∈ sts1, goodSt (n : Nat) (tot : Nat) s = true) → GoodC (n : Nat) sts1 := fun sts1 h1 h2 => ⟨by omega, by omega, by omega, by omega, by rw [h1]; exact h2⟩
      refine ifs_both (OvZ ol n tot sa sl hl place C mode H) (fun Dm hDm => ?_) fun σ' H2 h => ?_
      · refine ifS_open ?_
        try simp (maxSteps := 1000000) only [tSeq, tTest, tOp, tUn, tCB, tCons, tNil, tVar, tC, rI0, rI, rU, rEq, rNe, tRet, tRetN, tAsg, gName, gSub, tBM, tBM0, tNext, tB, tNot, tAnd, tOr, tIf, tCall, tDrop, tBreak, tCont, L2.start, tDGet, sDPut, tTup, tLst, tDNewK, tRevL, rCat, rAppend, rPop, rSetL, tAndV, tOrV, tNotV, tSl, tPart, tNoPart, tM1, gTup, gCons, gNil, cxK, cxnK, List.map_cons, List.map_nil, List.length_cons, List.length_nil, List.replicate, List.cons_append, List.nil_append, List.append_nil, List.set_cons_zero, List.set_cons_succ, List.getElem?_cons_zero, List.getElem?_cons_succ, Option.some.injEq, V.ref.injEq, V.int.injEq, V.str.injEq, V.bl.injEq, V.ty.injEq, exists_eq_left', exists_eq_left, exists_and_left, List.cons.injEq, and_true, true_and, sc_ii, sc_ss, sc_bb, sc_ni, sc_in, sc_is, sc_si, sc_nn, decide_true, decide_false, reduceCtorEq, Bool.false_eq_true, if_true, if_false, ite_true, ite_false, exists_const, eq_self, false_and, and_false, or_false, false_or, exists_false, Evl.rLenS, rSum, wipe, tYes, exists_eq, exists_eq', rIxL, rIxT, rIxS, exists_and_right, gt_iff_lt, not_true_eq_false, not_false_eq_true, Bool.not_true, Bool.not_false, decide_eq_true_eq, Nat.reduceSub, Nat.reduceAdd, List.append_assoc, tChain, tDIn, tDNotIn, sDDel, tAug, ipI, rInt1_int, rInt1_bl]
        by_cases hm : mode = 3
        case neg =>
          rw [if_neg hm]
          exact hDm _ _ ⟨us1, sts1, _, _, _, _, _, _, rfl, hol, hus1, sl1, sg1, k1⟩
        rw [if_pos hm]
        refine ⟨_, hh5 _ k1, _, a5, small (by decide), fun p np => ?_⟩
        have kp := (Kp.new np : Kp [] H' (upd H' p (.tup [.int d5, .int (((tot : Nat) : Int) - 1)])))
        have hp : (upd H' p (.tup [.int d5, .int (((tot : Nat) : Int) - 1)])) p = some (.tup [.int d5, .int (((tot : Nat) : Int) - 1)]) := upd_same
        have k2 := k1.trans kp
        have hol2 := kp _ _ not0 hol
        have hus2 := hus1.mono fun _ _ z => z.tp kp.tps
        generalize upd H' p (.tup [.int d5, .int (((tot : Nat) : Int) - 1)]) = H2 at kp hp k2 hol2 hus2 ⊢
        refine ⟨_, hh6 _ k2, _, a6, ?_⟩
        rw [rInt1_int]
        have e2 : ∃ y : Int, atI [V.int d5, V.int (((tot : Nat) : Int) - 1)] (d6 % 2) = some (.int y) := by
          have h1 := Int.emod_nonneg d6 (b := 2) (by omega)
          have h2 := Int.emod_lt_of_pos d6 (b := 2) (by omega)
          rcases (show d6 % 2 = 0 ∨ d6 % 2 = 1 by omega) with h | h <;> rw [h]
          · exact ⟨_, rfl⟩
          · exact ⟨_, rfl⟩
        obtain ⟨y, ey⟩ := e2
        refine ⟨_, rfl, by decide, _, sq_t hp, _, ey, ?_⟩
        rw [rInt1_int]
        obtain ⟨at_, eat, atl⟩ : ∃ i : Nat, y % ((tot : Nat) : Int) = (i : Nat) ∧ i < tot := by
          have h1 := Int.emod_nonneg y (b := (tot : Nat)) (by omega)
          have h2 := Int.emod_lt_of_pos y (b := (tot : Nat)) (by omega)
          exact ⟨(y % ((tot : Nat) : Int)).toNat, by omega, by omega⟩
        obtain ⟨st, est⟩ : ∃ st, sts1[at_]? = some st := ⟨_, List.getElem?_eq_getElem (by omega)⟩
        have gst := sg1 _ (List.mem_of_getElem? est)
        obtain ⟨sv, esv, ta, gv, ov, rfl, hta, hgv, hov⟩ := hus2.at est
        obtain ⟨gp1, gp2, gp3, gp4⟩ := good_parts gst (by omega)
        obtain ⟨gz, gfl, gln⟩ := good_sz gst n3
        refine ⟨_, rfl, by omega, ?_⟩
        rw [eat]
        refine ⟨_, sq_l hol2, _, atI_nat esv, ta, rfl, _, sq_t hta, rfl, _, _, rfl, _, _, rfl, rfl, ?_⟩
        refine ifs_both (OvE sa sl hl ol place n C tot mode us1 sts1 at_ H) (fun De hDe => ?_) fun σ3 H3 h => ?_
        · refine ifS_open ?_
          try simp (maxSteps := 1000000) only [tSeq, tTest, tOp, tUn, tCB, tCons, tNil, tVar, tC, rI0, rI, rU, rEq, rNe, tRet, tRetN, tAsg, gName, gSub, tBM, tBM0, tNext, tB, tNot, tAnd, tOr, tIf, tCall, tDrop, tBreak, tCont, L2.start, tDGet, sDPut, tTup, tLst, tDNewK, tRevL, rCat, rAppend, rPop, rSetL, tAndV, tOrV, tNotV, tSl, tPart, tNoPart, tM1, gTup, gCons, gNil, cxK, cxnK, List.map_cons, List.map_nil, List.length_cons, List.length_nil, List.replicate, List.cons_append, List.nil_append, List.append_nil, List.set_cons_zero, List.set_cons_succ, List.getElem?_cons_zero, List.getElem?_cons_succ, Option.some.injEq, V.ref.injEq, V.int.injEq, V.str.injEq, V.bl.injEq, V.ty.injEq, exists_eq_left', exists_eq_left, exists_and_left, List.cons.injEq, and_true, true_and, sc_ii, sc_ss, sc_bb, sc_ni, sc_in, sc_is, sc_si, sc_nn, decide_true, decide_false, reduceCtorEq, Bool.false_eq_true, if_true, if_false, ite_true, ite_false, exists_const, eq_self, false_and, and_false, or_false, false_or, exists_false, Evl.rLenS, rSum, wipe, tYes, exists_eq, exists_eq', rIxL, rIxT, rIxS, exists_and_right, gt_iff_lt, not_true_eq_false, not_false_eq_true, Bool.not_true, Bool.not_false, decide_eq_true_eq, Nat.reduceSub, Nat.reduceAdd, List.append_assoc, tChain, tDIn, tDNotIn, sDDel, tAug, ipI, rInt1_int, rInt1_bl]
          refine ⟨_, hh7 _ k2, _, a7, ?_⟩
          rw [rInt1_int]
          refine ⟨_, rfl, by decide, ?_⟩
          obtain ⟨ga, gus, rfl, hga, hgus⟩ := id hgv
          have osl : st.2.length = n := by omega
          by_cases h0 : d7 % 3 = 0
          · rw [if_pos h0]
            try simp (maxSteps := 1000000) only [tSeq, tIfS, tTest, tOp, tUn, tCB, tCons, tNil, tVar, tC, rI0, rI, rU, rEq, rNe, tRet, tRetN, tAsg, gName, gSub, tBM, tBM0, tNext, tB, tNot, tAnd, tOr, tIf, tCall, tDrop, tBreak, tCont, L2.start, tDGet, sDPut, tTup, tLst, tDNewK, tRevL, rCat, rAppend, rPop, rSetL, tAndV, tOrV, tNotV, tSl, tPart, tNoPart, tM1, gTup, gCons, gNil, cxK, cxnK, List.map_cons, List.map_nil, List.length_cons, List.length_nil, List.replicate, List.cons_append, List.nil_append, List.append_nil, List.set_cons_zero, List.set_cons_succ, List.getElem?_cons_zero, List.getElem?_cons_succ, Option.some.injEq, V.ref.injEq, V.int.injEq, V.str.injEq, V.bl.injEq, V.ty.injEq, exists_eq_left', exists_eq_left, exists_and_left, List.cons.injEq, and_true, true_and, sc_ii, sc_ss, sc_bb, sc_ni, sc_in, sc_is, sc_si, sc_nn, decide_true, decide_false, reduceCtorEq, Bool.false_eq_true, if_true, if_false, ite_true, ite_false, exists_const, eq_self, false_and, and_false, or_false, false_or, exists_false, Evl.rLenS, rSum, wipe, tYes, exists_eq, exists_eq', rIxL, rIxT, rIxS, exists_and_right, gt_iff_lt, not_true_eq_false, not_false_eq_true, Bool.not_true, Bool.not_false, decide_eq_true_eq, Nat.reduceSub, Nat.reduceAdd, List.append_assoc, tChain, tDIn, tDNotIn, sDDel, tAug, ipI, rInt1_int, rInt1_bl, tRevT]
            refine ⟨gus, sq_t hga, fun p np => ?_⟩
            have kx := (Kp.new np : Kp [] H2 (upd H2 p (.tup gus.reverse)))
            refine hDe _ _ ⟨_, _, st.1.reverse, st.2, _, _, _, rfl, kx _ _ not0 hol2, hus2.mono fun _ _ z => z.tp kx.tps, k2.trans kx, ⟨p, _, rfl, upd_same, hgus.rev.mono fun _ _ z => z.tp kx.tps⟩, hov.tp kx.tps, fun g hg => (gp2 g (List.mem_reverse.mp hg)).2, (List.reverse_perm st.1).flatten.trans gp4, osl, gp3⟩
          rw [if_neg h0]
          refine ifS_open ?_
          try simp (maxSteps := 1000000) only [tSeq, tIfS, tTest, tOp, tUn, tCB, tCons, tNil, tVar, tC, rI0, rI, rU, rEq, rNe, tRet, tRetN, tAsg, gName, gSub, tBM, tBM0, tNext, tB, tNot, tAnd, tOr, tIf, tCall, tDrop, tBreak, tCont, L2.start, tDGet, sDPut, tTup, tLst, tDNewK, tRevL, rCat, rAppend, rPop, rSetL, tAndV, tOrV, tNotV, tSl, tPart, tNoPart, tM1, gTup, gCons, gNil, cxK, cxnK, List.map_cons, List.map_nil, List.length_cons, List.length_nil, List.replicate, List.cons_append, List.nil_append, List.append_nil, List.set_cons_zero, List.set_cons_succ, List.getElem?_cons_zero, List.getElem?_cons_succ, Option.some.injEq, V.ref.injEq, V.int.injEq, V.str.injEq, V.bl.injEq, V.ty.injEq, exists_eq_left', exists_eq_left, exists_and_left, List.cons.injEq, and_true, true_and, sc_ii, sc_ss, sc_bb, sc_ni, sc_in, sc_is, sc_si, sc_nn, decide_true, decide_false, reduceCtorEq, Bool.false_eq_true, if_true, if_false, ite_true, ite_false, exists_const, eq_self, false_and, and_false, or_false, false_or, exists_false, Evl.rLenS, rSum, wipe, tYes, exists_eq, exists_eq', rIxL, rIxT, rIxS, exists_and_right, gt_iff_lt, not_true_eq_false, not_false_eq_true, Bool.not_true, Bool.not_false, decide_eq_true_eq, Nat.reduceSub, Nat.reduceAdd, List.append_assoc, tChain, tDIn, tDNotIn, sDDel, tAug, ipI, rInt1_int, rInt1_bl]
          refine ⟨_, hh7 _ k2, _, a7, ?_⟩
          rw [rInt1_int]
          refine ⟨_, rfl, by decide, ?_⟩
          by_cases h1 : d7 % 3 = 1
          · rw [if_pos h1]
            obtain ⟨g0, gr, egs⟩ : ∃ g0 gr, st.1 = g0 :: gr := by
              cases e : st.1 with
              | nil => rw [e] at gfl; simp at gfl; omega
              | cons g r => exact ⟨g, r, rfl⟩
            rw [egs] at hgus gp2 gp4
            obtain ⟨v0, vr, rfl, hv0, hvr⟩ := hgus.ex
            obtain ⟨b0, rfl, hb0⟩ := hv0
            have at0 : atI (V.ref b0 :: vr) 0 = some (.ref b0) := (show atI _ ((0 : Nat) : Int) = _ from atI_nat rfl)
            have g0l : g0.length ≤ 3 := by
              rw [egs] at gfl
              rw [List.flatten_cons, List.length_append] at gfl
              omega
            refine ⟨_, sq_t hga, _, at0, slT hb0 fun b1 H5 hb1 k5 => ⟨by decide, fun p np => ?_⟩⟩
            rw [show cutV (g0.map V.int) none (some 1) = (g0.take 1).map V.int from cut_0j (j := 1)] at hb1
            have kp5 := (Kp.new np : Kp [] H5 (upd H5 p (.tup [.ref b1])))
            have hp5 : (upd H5 p (.tup [.ref b1])) p = some (.tup [.ref b1]) := upd_same
            have k25 := k5.trans kp5
            have hb15 := kp5 _ _ not0 hb1
            generalize upd H5 p (.tup [.ref b1]) = H6 at kp5 hp5 k25 hb15 ⊢
            refine lc_srcT ?_
            try simp (maxSteps := 1000000) only [tSeq, tIfS, tTest, tOp, tUn, tCB, tCons, tNil, tVar, tC, rI0, rI, rU, rEq, rNe, tRet, tRetN, tAsg, gName, gSub, tBM, tBM0, tNext, tB, tNot, tAnd, tOr, tIf, tCall, tDrop, tBreak, tCont, L2.start, tDGet, sDPut, tTup, tLst, tDNewK, tRevL, rCat, rAppend, rPop, rSetL, tAndV, tOrV, tNotV, tSl, tPart, tNoPart, tM1, gTup, gCons, gNil, cxK, cxnK, List.map_cons, List.map_nil, List.length_cons, List.length_nil, List.replicate, List.cons_append, List.nil_append, List.append_nil, List.set_cons_zero, List.set_cons_succ, List.getElem?_cons_zero, List.getElem?_cons_succ, Option.some.injEq, V.ref.injEq, V.int.injEq, V.str.injEq, V.bl.injEq, V.ty.injEq, exists_eq_left', exists_eq_left, exists_and_left, List.cons.injEq, and_true, true_and, sc_ii, sc_ss, sc_bb, sc_ni, sc_in, sc_is, sc_si, sc_nn, decide_true, decide_false, reduceCtorEq, Bool.false_eq_true, if_true, if_false, ite_true, ite_false, exists_const, eq_self, false_and, and_false, or_false, false_or, exists_false, Evl.rLenS, rSum, wipe, tYes, exists_eq, exists_eq', rIxL, rIxT, rIxS, exists_and_right, gt_iff_lt, not_true_eq_false, not_false_eq_true, Bool.not_true, Bool.not_false, decide_eq_true_eq, Nat.reduceSub, Nat.reduceAdd, List.append_assoc, tChain, tDIn, tDNotIn, sDDel, tAug, ipI, rInt1_int, rInt1_bl]
            refine ⟨_, sq_t (k25 _ _ not0 hga), _, at0, slT (k25 _ _ not0 hb0) fun b2 H7 hb2 k7 => ⟨by decide, fun p2 np2 => ?_⟩⟩
            rw [show cutV (g0.map V.int) (some 1) none = (g0.drop 1).map V.int from cut_i (i := 1)] at hb2
            have kp7 := (Kp.new np2 : Kp [] H7 (upd H7 p2 (.tup [.ref b2])))
            have hp7 : (upd H7 p2 (.tup [.ref b2])) p2 = some (.tup [.ref b2]) := upd_same
            have k27 := (k25.trans k7).trans kp7
            have hb27 : TI (upd H7 p2 (.tup [.ref b2])) (.ref b2) (g0.drop 1) := ⟨b2, rfl, kp7 _ _ not0 hb2⟩
            have hp57 := (k7.trans kp7) _ _ not0 hp5
            have hb17 := (k7.trans kp7) _ _ not0 hb15
            generalize upd H7 p2 (.tup [.ref b2]) = H8 at kp7 hp7 k27 hb27 hp57 hb17 ⊢
            refine lcG (R := TI) (R2 := TI) (fun _ _ _ _ t h => h.tp t) (fun _ _ _ _ t h => h.tp t) (fun g : List Int => decide (0 < g.length)) id (src_tup (fun R q' => q') (sq_t hp7)) (Rw.cons hb27 .nil) (by simp) (fun v g H9 N N0 hg hv k9 hN hN0 => ?_) fun Dl us9 H9 nD hD hrw k9 => ?_
            · obtain ⟨gz, rfl, hgz⟩ := id hv
              refine ⟨by simp [wipe], ?_⟩
              try simp (maxSteps := 1000000) only [tSeq, tIfS, tTest, tOp, tUn, tCB, tCons, tNil, tVar, tC, rI0, rI, rU, rEq, rNe, tRet, tRetN, tAsg, gName, gSub, tBM, tBM0, tNext, tB, tNot, tAnd, tOr, tIf, tCall, tDrop, tBreak, tCont, L2.start, tDGet, sDPut, tTup, tLst, tDNewK, tRevL, rCat, rAppend, rPop, rSetL, tAndV, tOrV, tNotV, tSl, tPart, tNoPart, tM1, gTup, gCons, gNil, cxK, cxnK, List.map_cons, List.map_nil, List.length_cons, List.length_nil, List.replicate, List.cons_append, List.nil_append, List.append_nil, List.set_cons_zero, List.set_cons_succ, List.getElem?_cons_zero, List.getElem?_cons_succ, Option.some.injEq, V.ref.injEq, V.int.injEq, V.str.injEq, V.bl.injEq, V.ty.injEq, exists_eq_left', exists_eq_left, exists_and_left, List.cons.injEq, and_true, true_and, sc_ii, sc_ss, sc_bb, sc_ni, sc_in, sc_is, sc_si, sc_nn, decide_true, decide_false, reduceCtorEq, Bool.false_eq_true, if_true, if_false, ite_true, ite_false, exists_const, eq_self, false_and, and_false, or_false, false_or, exists_false, Evl.rLenS, rSum, wipe, tYes, exists_eq, exists_eq', rIxL, rIxT, rIxS, exists_and_right, gt_iff_lt, not_true_eq_false, not_false_eq_true, Bool.not_true, Bool.not_false, decide_eq_true_eq, Nat.reduceSub, Nat.reduceAdd, List.append_assoc, tChain, tDIn, tDNotIn, sDDel, tAug, ipI, rInt1_int, rInt1_bl]
              refine ⟨_, .inr (sq_t hgz), ?_⟩
              rw [List.length_map]
              by_cases hb : 0 < g.length
              · rw [if_pos (by omega)]
                exact hN (decide_eq_true hb) _ _ hv (Kp.refl _ _)
              · rw [if_neg (by omega)]
                exact hN0 (decide_eq_false hb) _ (Kp.refl _ _)
            · rw [List.map_id] at hrw
              have ul9 : us9.length ≤ 1 := by
                rw [hrw.len]
                exact Nat.le_trans (List.length_filter_le _ _) (by simp)
              refine ⟨Dl, rfl, _, .inl ⟨sq_l hD, fun l nl => ?_⟩⟩
              have kl := (Kp.new nl : Kp [] H9 (upd H9 l (.tup us9)))
              have hl9 : (upd H9 l (.tup us9)) l = some (.tup us9) := upd_same
              have k29 := (k27.trans k9).trans kl
              have k89 := k9.trans kl
              have hrw9 := hrw.mono fun _ _ z => z.tp kl.tps
              generalize upd H9 l (.tup us9) = H10 at kl hl9 k29 k89 hrw9 ⊢
              have vrl : vr.length ≤ 3 := by
                have := hgus.len
                rw [egs] at gln
                simp only [List.length_cons] at this gln
                omega
              refine catT (k89 _ _ not0 hp57) hl9 (by simp; omega) fun c11 H11 h11 k11 => slT ((k29.trans k11) _ _ not0 hga) fun b3 H12 hb3 k12 => ?_
              rw [show cutV (V.ref b0 :: vr) (some 1) none = vr from cut_from (V.ref b0 :: vr) 1] at hb3
              refine catT (k12 _ _ not0 h11) hb3 (by simp; omega) fun c13' H13 h13 k13 => ?_
              have kF := ((k29.trans k11).trans k12).trans k13
              have k8F := ((k89.trans k11).trans k12).trans k13
              refine hDe _ _ ⟨.ref c13', _, (g0.take 1 :: ([g0.drop 1].filter fun g => decide (0 < g.length))) ++ gr, st.2, _, _, _, rfl, kF _ _ not0 hol2, hus2.mono fun _ _ z => z.tp kF.tps, k2.trans kF, ⟨c13', _, rfl, h13, ?_⟩, hov.tp kF.tps, fun g hg => ?_, ?_, osl, gp3⟩
              · refine Rw.app (Rw.app (us := [V.ref b1]) (gs := [g0.take 1]) (.cons ⟨b1, rfl, k8F _ _ not0 hb17⟩ .nil) (hrw9.mono fun _ _ z => z.tp ((k11.trans k12).trans k13).tps)) (hvr.mono fun _ _ z => z.tp kF.tps)
              · rcases List.mem_append.mp hg with hg | hg
                · rcases List.mem_cons.mp hg with hg | hg
                  · rw [hg, List.length_take]
                    have := (gp2 g0 List.mem_cons_self).2
                    omega
                  · exact of_decide_eq_true (List.mem_filter.mp hg).2
                · exact (gp2 g (List.mem_cons_of_mem _ hg)).2
              · rw [List.flatten_append, List.flatten_cons, filt_flat, List.take_append_drop]
                rw [List.flatten_cons] at gp4
                exact gp4
          · rw [if_neg h1]
            refine lcRgF n (by omega) (fun _ v (x : Int) => v = .int x) (fun o => (d8 + ((o : Nat) : Int) * d5) % ((tot : Nat) : Int)) (fun _ _ _ _ _ h => h) (by simp) (fun R h => ⟨_, rfl, h⟩) (fun o H5 Q' ho k5 q' => ?_) fun D ws H5 nD hD hws k5 => ?_
            · try simp (maxSteps := 1000000) only [tSeq, tIfS, tTest, tOp, tUn, tCB, tCons, tNil, tVar, tC, rI0, rI, rU, rEq, rNe, tRet, tRetN, tAsg, gName, gSub, tBM, tBM0, tNext, tB, tNot, tAnd, tOr, tIf, tCall, tDrop, tBreak, tCont, L2.start, tDGet, sDPut, tTup, tLst, tDNewK, tRevL, rCat, rAppend, rPop, rSetL, tAndV, tOrV, tNotV, tSl, tPart, tNoPart, tM1, gTup, gCons, gNil, cxK, cxnK, List.map_cons, List.map_nil, List.length_cons, List.length_nil, List.replicate, List.cons_append, List.nil_append, List.append_nil, List.set_cons_zero, List.set_cons_succ, List.getElem?_cons_zero, List.getElem?_cons_succ, Option.some.injEq, V.ref.injEq, V.int.injEq, V.str.injEq, V.bl.injEq, V.ty.injEq, exists_eq_left', exists_eq_left, exists_and_left, List.cons.injEq, and_true, true_and, sc_ii, sc_ss, sc_bb, sc_ni, sc_in, sc_is, sc_si, sc_nn, decide_true, decide_false, reduceCtorEq, Bool.false_eq_true, if_true, if_false, ite_true, ite_false, exists_const, eq_self, false_and, and_false, or_false, false_or, exists_false, Evl.rLenS, rSum, wipe, tYes, exists_eq, exists_eq', rIxL, rIxT, rIxS, exists_and_right, gt_iff_lt, not_true_eq_false, not_false_eq_true, Bool.not_true, Bool.not_false, decide_eq_true_eq, Nat.reduceSub, Nat.reduceAdd, List.append_assoc, tChain, tDIn, tDNotIn, sDDel, tAug, ipI, rInt1_int, rInt1_bl]
              refine ⟨_, hh8 _ (k2.trans k5), _, a8, _, hh5 _ (k2.trans k5), _, a5, d5, rfl, .inl ⟨by omega, by omega⟩, d8, rfl, ?_⟩
              refine ⟨by omega, q' _ _ rfl (Kp.refl _ _)⟩
            · have ew := rwInts_eq hws
              subst ew
              refine ⟨D, rfl, _, .inl ⟨sq_l hD, fun l nl => ?_⟩⟩
              have kl := (Kp.new nl : Kp [] H5 (upd H5 l (.tup (((List.range n).map fun o => (d8 + ((o : Nat) : Int) * d5) % ((tot : Nat) : Int)).map V.int))))
              have kF := k5.trans kl
              refine hDe _ _ ⟨_, .ref l, st.1, _, _, _, _, rfl, kF _ _ not0 hol2, hus2.mono fun _ _ z => z.tp kF.tps, k2.trans kF, hgv.tp kF.tps, ⟨l, rfl, upd_same⟩, fun g hg => (gp2 g hg).2, gp4, by simp, fun r hr => ?_⟩
              obtain ⟨o, _, rfl⟩ := List.mem_map.mp hr
              exact ⟨Int.emod_nonneg _ (by omega), Int.emod_lt_of_pos _ (by omega)⟩
        · obtain ⟨gv', ov', gs', os', c9, c10, c13, rfl, hol3, hus3, k3, hgv3, hov3, gn3, gp3', ol3, ob3⟩ := h
          try simp (maxSteps := 1000000) only [tSeq, tIfS, tTest, tOp, tUn, tCB, tCons, tNil, tVar, tC, rI0, rI, rU, rEq, rNe, tRet, tRetN, tAsg, gName, gSub, tBM, tBM0, tNext, tB, tNot, tAnd, tOr, tIf, tCall, tDrop, tBreak, tCont, L2.start, tDGet, sDPut, tTup, tLst, tDNewK, tRevL, rCat, rAppend, rPop, rSetL, tAndV, tOrV, tNotV, tSl, tPart, tNoPart, tM1, gTup, gCons, gNil, cxK, cxnK, List.map_cons, List.map_nil, List.length_cons, List.length_nil, List.replicate, List.cons_append, List.nil_append, List.append_nil, List.set_cons_zero, List.set_cons_succ, List.getElem?_cons_zero, List.getElem?_cons_succ, Option.some.injEq, V.ref.injEq, V.int.injEq, V.str.injEq, V.bl.injEq, V.ty.injEq, exists_eq_left', exists_eq_left, exists_and_left, List.cons.injEq, and_true, true_and, sc_ii, sc_ss, sc_bb, sc_ni, sc_in, sc_is, sc_si, sc_nn, decide_true, decide_false, reduceCtorEq, Bool.false_eq_true, if_true, if_false, ite_true, ite_false, exists_const, eq_self, false_and, and_false, or_false, false_or, exists_false, Evl.rLenS, rSum, wipe, tYes, exists_eq, exists_eq', rIxL, rIxT, rIxS, exists_and_right, gt_iff_lt, not_true_eq_false, not_false_eq_true, Bool.not_true, Bool.not_false, decide_eq_true_eq, Nat.reduceSub, Nat.reduceAdd, List.append_assoc, tChain, tDIn, tDNotIn, sDDel, tAug, ipI, rInt1_int, rInt1_bl]
          refine ⟨small (by decide), fun u nu => ?_⟩
          have hS2 := TSt.make hgv3 hov3 nu
          have ku := (Kp.new nu : Kp [] H3 (upd H3 u (.tup [gv', ov'])))
          generalize upd H3 u (.tup [gv', ov']) = H4 at hS2 ku ⊢
          have hol4 := ku _ _ not0 hol3
          have tp : Tp H4 (upd H4 ol (.lst (us1.set at_ (.ref u)))) := (Tp.refl _).putL hol4
          have ull : us1.length = tot := by rw [hus3.len, sl1]
          have eix : ixN us1.length ((at_ : Nat) : Int) = some at_ := by
            unfold ixN
            rw [if_pos (by omega), if_pos (by omega)]
            simp
          refine ⟨us1, hol4, at_, eix, hDm _ _ ⟨us1.set at_ (.ref u), sts1.set at_ (gs', os'), _, _, _, _, _, _, rfl, upd_same, (((hus3.mono fun _ _ z => z.tp ku.tps).set at_ hS2).mono fun _ _ z => z.tp tp), by rw [List.length_set, sl1], fun s hs => ?_, (k3.trans ku).wr nol⟩⟩
          rcases List.mem_or_eq_of_mem_set hs with hs | hs
          · exact sg1 s hs
          · rw [hs]
            exact good_mk ol3 gn3 ob3 gp3'
      · obtain ⟨us2, sts2, c9, c10, c11, c12, c13, c15, rfl, hol2, hus2, sl2, sg2, k2⟩ := h
        try simp (maxSteps := 1000000) only [tSeq, tIfS, tTest, tOp, tUn, tCB, tCons, tNil, tVar, tC, rI0, rI, rU, rEq, rNe, tRet, tRetN, tAsg, gName, gSub, tBM, tBM0, tNext, tB, tNot, tAnd, tOr, tIf, tCall, tDrop, tBreak, tCont, L2.start, tDGet, sDPut, tTup, tLst, tDNewK, tRevL, rCat, rAppend, rPop, rSetL, tAndV, tOrV, tNotV, tSl, tPart, tNoPart, tM1, gTup, gCons, gNil, cxK, cxnK, List.map_cons, List.map_nil, List.length_cons, List.length_nil, List.replicate, List.cons_append, List.nil_append, List.append_nil, List.set_cons_zero, List.set_cons_succ, List.getElem?_cons_zero, List.getElem?_cons_succ, Option.some.injEq, V.ref.injEq, V.int.injEq, V.str.injEq, V.bl.injEq, V.ty.injEq, exists_eq_left', exists_eq_left, exists_and_left, List.cons.injEq, and_true, true_and, sc_ii, sc_ss, sc_bb, sc_ni, sc_in, sc_is, sc_si, sc_nn, decide_true, decide_false, reduceCtorEq, Bool.false_eq_true, if_true, if_false, ite_true, ite_false, exists_const, eq_self, false_and, and_false, or_false, false_or, exists_false, Evl.rLenS, rSum, wipe, tYes, exists_eq, exists_eq', rIxL, rIxT, rIxS, exists_and_right, gt_iff_lt, not_true_eq_false, not_false_eq_true, Bool.not_true, Bool.not_false, decide_eq_true_eq, Nat.reduceSub, Nat.reduceAdd, List.append_assoc, tChain, tDIn, tDNotIn, sDDel, tAug, ipI, rInt1_int, rInt1_bl]
        exact q ol us2 sts2 H2 nol hol2 hus2 (stL sts2 sl2 sg2) k2
end
end My

set_option Elab.async false
set_option linter.all false
set_option maxRecDepth 100000
set_option maxHeartbeats 4000000
namespace My
open PySem L2 NdefX StX
abbrev s_law_parts : Stmt := top 32
theorem sc_law_parts : FnScope ["_law_one", "_law_other", "_law_a", "_law_b", "_law_pairs_here", "_law_due_here", "_law_row_here"] ["_law_one", "_law_other", "_law_a", "_law_b", "_law_pairs_here"] (defScope s_law_parts) := ⟨rfl, rfl, rfl, by decide +kernel, rfl, by decide +kernel, by decide +kernel⟩
theorem par_lets {c : Nat} {a b : List Cst} (c1 : 1 ≤ c) (c3 : c ≤ 3) : ∀ {r : List Pr} {s : S2}, BO.Par (mvC c a) (stC a b) s r → letsC a s.1 r = true ∧ letsC b s.2 r = false ∧ letsC b s.2 r.dropLast = true
  | [], _, h => h.elim
  | z :: w, s, ⟨hz, h⟩ => by
    obtain ⟨_, _, p3, _, _⟩ := ps_ok c c1 c3
    obtain ⟨zl, z0, z1, zin⟩ := p3 z (mv_in hz)
    have hA : z.2 ∈ letOf (stOf a s.1).1 z.1 := by
      rw [letOf_eq]
      exact List.mem_filter.mpr ⟨zin, (List.mem_filter.mp hz).2⟩
    have eA : ∀ w, letsC a s.1 (z :: w) = letsC a (nxt a s.1 z.2) w := fun w => by
      show (decide (z.2 ∈ letOf (stOf a s.1).1 z.1) && letsC a (nxt a s.1 z.2) w) = _
      rw [decide_eq_true hA]
      rfl
    have eB : ∀ w, letsC b s.2 (z :: w) = (decide (z.2 ∈ letOf (stOf b s.2).1 z.1) && letsC b (nxt b s.2 z.2) w) := fun w => rfl
    have hB : z.2 ∈ letOf (stOf b s.2).1 z.1 ↔ letG z.1 z.2 (stOf b s.2).1 = true := by
      rw [letOf_eq, List.mem_filter]
      exact ⟨fun h => h.2, fun h => ⟨zin, h⟩⟩
    by_cases hb : letG z.1 z.2 (stOf b s.2).1 = true
    · have es : stC a b s z = some (nxt a s.1 z.2, nxt b s.2 z.2) := by
        unfold stC
        exact if_pos hb
      rw [es] at h
      obtain ⟨i1, i2, i3⟩ := par_lets c1 c3 h
      have wn : w ≠ [] := by rintro rfl; exact h
      rw [eA, eB, decide_eq_true (hB.mpr hb), Bool.true_and]
      refine ⟨i1, i2, ?_⟩
      obtain ⟨x, w', rfl⟩ : ∃ x w', w = x :: w' := by
        cases w with
        | nil => exact absurd rfl wn
        | cons x w' => exact ⟨x, w', rfl⟩
      rw [List.dropLast_cons₂, eB, decide_eq_true (hB.mpr hb), Bool.true_and]
      exact i3
    · have es : stC a b s z = none := by
        unfold stC
        exact if_neg hb
      rw [es] at h
      subst h
      rw [eA, eB, decide_eq_false (fun x => hb (hB.mp x))]
      exact ⟨rfl, rfl, rfl⟩
theorem cut_init (xs : List V) : cutV xs none (some (-1)) = xs.dropLast := by
  unfold cutV
  rw [List.dropLast_eq_take, HT.sIx_none, List.drop_zero]
  have h1 : HT.sIx xs.length xs.length (some (-1)) = xs.length - 1 := by
    show (if (-1 : Int) < 0 then ((-1 : Int) + (xs.length : Int)).toNat else min (-1 : Int).toNat xs.length) = _
    rw [if_pos (by decide)]
    omega
  rw [h1, Nat.sub_zero]
theorem Rw.init {α : Type} {R : V → α → Prop} {us : List V} {gs : List α} (h : Rw R us gs) : Rw R us.dropLast gs.dropLast := by
  rw [List.dropLast_eq_take, List.dropLast_eq_take, ← h.len]
  exact h.take _
section
variable {P : Program} {w : World} {K : PySem.W.Frag} {mg : Str → Option Value} {base : Heap} {t1 t2 : Tok}
def spParts (CH : Addr) : Sp := fun vs H Q _ => ∃ (oa ob la lb lp : Addr) (c : Nat) (a b : List Cst) (ua ub up : List V), vs = [.ref oa, .ref ob, .ref la, .ref lb, .ref lp] ∧ ChAt CH H oa (c : Nat) a ∧ ChAt CH H ob (c : Nat) b ∧ H la = some (.lst ua) ∧ Rw (TSt H) ua a ∧ H lb = some (.lst ub) ∧ Rw (TSt H) ub b ∧ H lp = some (.lst up) ∧ Rw (PrAt H) up (psC c) ∧ GoodC (c : Nat) a ∧ GoodC (c : Nat) b ∧
  ∀ H', Kp [] H H' → Q (.bl true) H'
theorem ok_law_parts {f : Addr} {fd : FuncData} (D : Df K mg "_law_parts" s_law_parts ["_law_one", "_law_other", "_law_a", "_law_b", "_law_pairs_here"] f fd) (T : BtW mg) {CH BN : Addr} {g1 : Addr} {gd1 : FuncData} (D_law_due : Df K mg "_law_due" s_law_due ["_law_a", "_law_b", "_law_pairs_here"] g1 gd1) (G_law_due : FnOk P w K mg base CX0 3 g1 gd1 ["_law_a", "_law_b", "_law_pairs_here"] spDue) {g2 : Addr} {gd2 : FuncData} (D_parting_row : Df K mg "parting_row" s_parting_row ["a", "b"] g2 gd2) (G_parting_row : FnOk P w K mg base (L2.CX P w) 6 g2 gd2 ["a", "b"] (spPart CH BN))
    {g3 : Addr} {gd3 : FuncData} (D_law_same : Df K mg "_law_same" s_law_same ["_law_row_here", "_law_due_here"] g3 gd3) (G_law_same : FnOk P w K mg base CX0 2 g3 gd3 ["_law_row_here", "_law_due_here"] spSame) {g4 : Addr} {gd4 : FuncData} (D_lets : Df K mg "lets" s_lets ["chooser", "row"] g4 gd4) (G_lets : FnOk P w K mg base CX0 5 g4 gd4 ["chooser", "row"] (spLets CH)) : FnOk P w K mg base CX0 7 f fd ["_law_one", "_law_other", "_law_a", "_law_b", "_law_pairs_here"] (spParts CH) := by
  refine D.F.ok sc_law_parts (fun vs H Q E h => ?_) (fun cdv A outer s H vs Q E hr h => ?_)
  · obtain ⟨_, _, _, _, _, _, _, _, _, _, _, rfl, _⟩ := h
    rfl
  · obtain ⟨oa, ob, la, lb, lp, c, a, b, ua, ub, up, rfl, hA, hB, hla, hua, hlb, hub, hlp, hup, gA, gB, q⟩ := h
    have c1 : 1 ≤ c := by have := gA.1; omega
    have c3 : c ≤ 3 := by have := gA.2.1; omega
    refine ⟨_, (pss_cons (ps_set (i := 5) sc_law_parts.nd rfl (Or.inl rfl) (pe_call G_law_due (hr.mono (by decide)) rfl D_law_due.g D_law_due.F.kp D_law_due.b .nil pass0 (pa_cons (pv 2) (pa_cons (pv 3) (pa_cons (pv 4) pa_nil)))))
      (pss_cons (ps_set (i := 6) sc_law_parts.nd rfl (Or.inl rfl) (pe_call G_parting_row (hr.mono (by decide)) rfl D_parting_row.g D_parting_row.F.kp D_parting_row.b .nil passL (pa_cons (pv 0) (pa_cons (pv 1) pa_nil))))
      (pss_cons (ps_if (pt_not (pt_val (pe_call G_law_same (hr.mono (by decide)) rfl D_law_same.g D_law_same.F.kp D_law_same.b .nil pass0 (pa_cons (pv 6) (pa_cons (pv 5) pa_nil))))) (pss_one (ps_ret pe_bl)) pss_nil)
      (pss_cons (ps_if (pt_cmpR op_isN (pv 6) pe_non (nomark _)) (pss_one (ps_ret (pe_cmpR op_isN (pe_call G_parting_row (hr.mono (by decide)) rfl D_parting_row.g D_parting_row.F.kp D_parting_row.b .nil passL (pa_cons (pv 0) (pa_cons (pv 1) pa_nil))) pe_non (nomark _)))) pss_nil)
      (pss_cons (ps_if (PW.pt (pw_or (pt_cmpR op_isnot_bl (pe_call G_lets (hr.mono (by decide)) rfl D_lets.g D_lets.F.kp D_lets.b .nil pass0 (pa_cons (pv 0) (pa_cons (pv 6) pa_nil))) pe_bl (nomark _)) (pw_or (pt_cmpR op_isnot_bl (pe_call G_lets (hr.mono (by decide)) rfl D_lets.g D_lets.F.kp D_lets.b .nil pass0 (pa_cons (pv 1) (pa_cons (pv 6) pa_nil))) pe_bl (nomark _)) (pw_or1 (pt_cmpR op_isnot_bl (pe_call G_lets (hr.mono (by decide)) rfl D_lets.g D_lets.F.kp D_lets.b .nil pass0 (pa_cons (pv 1) (pa_cons (pe_slice sl_list (pv 6) po_none (po_some (pe_un un_neg pe_int))) pa_nil))) pe_bl (nomark _)))))) (pss_one (ps_ret pe_bl)) pss_nil)
      (pss_cons (ps_expr (pe_bm PySem.F.plainAttrs_list PySem.F.slot_list_append PySem.F.type_list_append mt_append (pv 6) (pa_cons (pe_ix (r := rIxL K) ix_list (pv 6) pe_int (fun _ _ => rfl)) pa_nil)))
      (pss_cons (ps_asg (pe_tup (pa_cons (pe_tup pa_nil) (pa_cons pe_int pa_nil))) (pg_sub (pv 6) pe_int set_list))
      (pss_one (ps_ret (pe_call G_law_same (hr.mono (by decide)) rfl D_law_same.g D_law_same.F.kp D_law_same.b .nil pass0 (pa_cons (pe_call G_parting_row (hr.mono (by decide)) rfl D_parting_row.g D_parting_row.F.kp D_parting_row.b .nil passL (pa_cons (pv 0) (pa_cons (pv 1) pa_nil))) (pa_cons (pv 5) pa_nil)))))))))))), ?_⟩
    try simp (maxSteps := 1000000) only [tSeq, tIfS, tTest, tOp, tUn, tCB, tCons, tNil, tVar, tC, rI0, rI, rU, rEq, rNe, tRet, tRetN, tAsg, gName, gSub, tBM, tBM0, tNext, tB, tNot, tAnd, tOr, tIf, tCall, tDrop, tBreak, tCont, L2.start, tDGet, sDPut, tTup, tLst, tDNewK, tRevL, rCat, rAppend, rPop, rSetL, tAndV, tOrV, tNotV, tSl, tPart, tNoPart, tM1, gTup, gCons, gNil, cxK, cxnK, List.map_cons, List.map_nil, List.length_cons, List.length_nil, List.replicate, List.cons_append, List.nil_append, List.append_nil, List.set_cons_zero, List.set_cons_succ, List.getElem?_cons_zero, List.getElem?_cons_succ, Option.some.injEq, V.ref.injEq, V.int.injEq, V.str.injEq, V.bl.injEq, V.ty.injEq, exists_eq_left', exists_eq_left, exists_and_left, List.cons.injEq, and_true, true_and, sc_ii, sc_ss, sc_bb, sc_ni, sc_in, sc_is, sc_si, sc_nn, decide_true, decide_false, reduceCtorEq, Bool.false_eq_true, if_true, if_false, ite_true, ite_false, exists_const, eq_self, false_and, and_false, or_false, false_or, exists_false, Evl.rLenS, rSum, wipe, tYes, exists_eq, exists_eq', rIxL, rIxT, rIxS, exists_and_right, gt_iff_lt, not_true_eq_false, not_false_eq_true, Bool.not_true, Bool.not_false, decide_eq_true_eq, Nat.reduceSub, Nat.reduceAdd, List.append_assoc, tChain, tDIn, tDNotIn, sDDel, tAug, ipI, rInt1_int, rInt1_bl]
    refine ⟨la, lb, lp, c, a, b, ua, ub, up, rfl, hla, hua, hlb, hub, hlp, hup, gA, gB, fun r dl du H1 hL rl ndl hdl hdu k1 => ?_, fun hN H1 k1 => ?_⟩
    · refine ⟨oa, ob, c, c, a, b, rfl, hA.kp k1, hB.kp k1, gA, gB, fun _ => ⟨fun r' l us H2 hL' _ nl hl hus k2 => ?_, fun hN => absurd hL.1 (hN r)⟩, fun h => absurd rfl h⟩
      obtain rfl := hL.one hL'
      obtain ⟨_, _, po3, _, _⟩ := ps_ok c c1 c3
      have pls : ∀ p ∈ r, p.1.length ≤ 1000 ∧ 0 ≤ p.2 ∧ p.2 < c := fun p hp => by
        have := po3 p (BO.par_mem (psC c) (fun _ _ h => mv_in h) hL.1 p hp)
        exact ⟨by omega, this.2.1, this.2.2.1⟩
      obtain ⟨le1, le2, le3⟩ := par_lets c1 c3 hL.1
      have rp := BO.par_pos hL.1
      have hdl2 := k2 _ _ not0 hdl
      have hdu2 := hdu.mono fun _ _ z => z.tp k2.tps
      refine .inr ⟨l, dl, us, du, r, rfl, hl, hus, hdl2, hdu2, by omega, fun p hp => (pls p hp).1, fun H3 k3 => ⟨_, rfl, ?_⟩⟩
      rw [if_neg (by simp), if_neg (fun z => nomatch z)]
      have k03 := (k1.trans k2).trans k3
      refine ⟨oa, l, c, us, a, r, rfl, hA.kp k03, gA, k3 _ _ not0 hl, hus.mono fun _ _ z => z.tp k3.tps, pls, fun H4 k4 => ⟨_, rfl, ?_⟩⟩
      rw [le1, if_neg (by simp)]
      have k04 := k03.trans k4
      have k24 := k3.trans k4
      refine ⟨ob, l, c, us, b, r, rfl, hB.kp k04, gB, k24 _ _ not0 hl, hus.mono fun _ _ z => z.tp k24.tps, pls, fun H5 k5 => ⟨_, rfl, ?_⟩⟩
      rw [le2, if_neg (by simp)]
      have k05 := k04.trans k5
      have k25 := k24.trans k5
      refine ⟨l, us, rfl, sq_l (k25 _ _ not0 hl), fun p np => ?_⟩
      rw [cut_init]
      have kp := (Kp.new np : Kp [] H5 (upd H5 p (.lst us.dropLast)))
      have hp : (upd H5 p (.lst us.dropLast)) p = some (.lst us.dropLast) := upd_same
      generalize upd H5 p (.lst us.dropLast) = H6 at kp hp ⊢
      have k06 := k05.trans kp
      have k26 := k25.trans kp
      refine ⟨ob, p, c, us.dropLast, b, r.dropLast, rfl, hB.kp k06, gB, hp, (hus.mono fun _ _ z => z.tp k26.tps).init, fun x hx => pls x (List.dropLast_subset _ hx), fun H7 k7 => ⟨_, rfl, ?_⟩⟩
      rw [le3, if_neg (by simp)]
      have k07 := k06.trans k7
      have k27 := k26.trans k7
      obtain ⟨u0, ur, rfl⟩ : ∃ u0 ur, us = u0 :: ur := by
        cases us with
        | nil => have := hus.len; simp at this; omega
        | cons u0 ur => exact ⟨u0, ur, rfl⟩
      have hl7 := k27 _ _ not0 hl
      refine ⟨.inl ⟨rfl, _, sq_l hl7⟩, l, rfl, _, sq_l hl7, u0, (show atI _ ((0 : Nat) : Int) = _ from atI_nat rfl), l, rfl, _, hl7, by have := hus.len; simp only [List.length_cons] at this ⊢; exact smallL (by omega), ?_⟩
      have ix0 : ixN (u0 :: ur ++ [u0]).length 0 = some 0 := by
        unfold ixN
        rw [if_pos (by decide), if_pos (by simp only [List.length_append, List.length_cons]; omega)]
        rfl
      refine ⟨Nat.zero_le _, fun e0 ne0 => ⟨small (by decide), fun e1 ne1 => ⟨l, rfl, _, ((Kp.new ne0).trans (Kp.new ne1) : Kp [] _ _) _ _ not0 upd_same, 0, ix0, ?_⟩⟩⟩
      have kX : Kp [] H1 (upd (upd (upd (upd H7 l (.lst (u0 :: ur ++ [u0]))) e0 (.tup [])) e1 (.tup [.ref e0, .int 0])) l (.lst ((u0 :: ur ++ [u0]).set 0 (.ref e1)))) := (((((k2.trans k27).wr nl).trans (Kp.new ne0)).trans (Kp.new ne1))).wr nl
      generalize upd (upd (upd (upd H7 l (.lst (u0 :: ur ++ [u0]))) e0 (.tup [])) e1 (.tup [.ref e0, .int 0])) l (.lst ((u0 :: ur ++ [u0]).set 0 (.ref e1))) = HX at kX ⊢
      have k0X := k1.trans kX
      refine ⟨oa, ob, c, c, a, b, rfl, hA.kp k0X, hB.kp k0X, gA, gB, fun _ => ⟨fun r'' l2 us2 H8 hL'' _ nl2 hl2 hus2 k8 => ?_, fun hN => absurd hL.1 (hN r)⟩, fun h => absurd rfl h⟩
      obtain rfl := hL.one hL''
      exact .inr ⟨l2, dl, us2, du, r, rfl, hl2, hus2, (kX.trans k8) _ _ not0 hdl, hdu.mono fun _ _ z => z.tp (kX.trans k8).tps, by omega, fun p hp => (pls p hp).1, fun H9 k9 => q _ ((k0X.trans k8).trans k9)⟩
    · refine ⟨oa, ob, c, c, a, b, rfl, hA.kp k1, hB.kp k1, gA, gB, fun _ => ⟨fun r' l us H2 hL' _ nl hl hus k2 => absurd hL'.1 (hN r'), fun _ H2 k2 => ?_⟩, fun h => absurd rfl h⟩
      refine .inl ⟨rfl, fun H3 k3 => ⟨_, rfl, ?_⟩⟩
      rw [if_neg (by simp), if_pos rfl]
      have k03 := (k1.trans k2).trans k3
      refine ⟨oa, ob, c, c, a, b, rfl, hA.kp k03, hB.kp k03, gA, gB, fun _ => ⟨fun r' l us H2 hL' _ nl hl hus k2 => absurd hL'.1 (hN r'), fun _ H4 k4 => ?_⟩, fun h => absurd rfl h⟩
      dsimp only
      rw [decide_eq_true rfl]
      exact q _ (k03.trans k4)
end
end My

set_option Elab.async false
set_option linter.all false
set_option maxRecDepth 100000
set_option maxHeartbeats 4000000
namespace My
open PySem L2 NdefX StX
section
variable {P : Program} {w : World} {K : PySem.W.Frag} {mg : Str → Option Value} {base : Heap}
theorem erase_mapI : ∀ (l : List Int) (j : Nat), (l.map V.int).eraseIdx j = (l.eraseIdx j).map V.int
  | [], j => by simp
  | _ :: _, 0 => by simp
  | _ :: r, j + 1 => by simp [erase_mapI r j]
def spLState : Sp := fun vs H Q _ => ∃ (l : Addr) (n size : Nat) (ds : List Int), vs = [.ref l, .int (n : Nat), .int (size : Nat)] ∧ H l = some (.lst (ds.map V.int)) ∧ ds.length = 9 ∧ (∀ d ∈ ds, 0 ≤ d ∧ d < 1000) ∧ 1 ≤ n ∧ n ≤ 3 ∧ 1 ≤ size ∧ size ≤ 12 ∧ ∀ v s H', TSt H' v s → goodSt (n : Nat) (size : Nat) s = true → SzSt s → Kp [] H H' → Q v H'
def StIn (l : Addr) (n size : Nat) (rl gl : Addr) (H : Hp) (j : Nat) (σ : L2.St) (H' : Hp) : Prop := ∃ (rest : List Int) (us : List V) (gs : List (List Int)) (c5 c6 : Option V), σ = [some (.ref l), some (.int (n : Nat)), some (.int (size : Nat)), some (.ref rl), some (.ref gl), c5, c6] ∧ H' rl = some (.lst (rest.map V.int)) ∧ H' gl = some (.lst us) ∧ Rw (TI H') us gs ∧ rest.length + j = n ∧ (gs.flatten ++ rest).Perm (rgI n) ∧ (∀ g ∈ gs, g ≠ []) ∧ (0 < j → gs ≠ []) ∧ gs.length ≤ j ∧ Kp [] H H'
theorem ok_law_state {f : Addr} {fd : FuncData} (D : Df K mg "_law_state" s_law_state ["_law_row_here", "_law_many", "_law_size"] f fd) (T : BtW mg) : FnOk P w K mg base CX0 1 f fd ["_law_row_here", "_law_many", "_law_size"] spLState := by
  refine D.F.ok sc_law_state (fun vs H Q E h => ?_) (fun cdv A outer s H vs Q E hr h => ?_)
  · obtain ⟨_, _, _, _, rfl, _⟩ := h
    rfl
  · obtain ⟨l, n, size, ds, rfl, hl, dl, db, n1, n3, z1, z2, q⟩ := h
    have hu := hu_of hr
    refine ⟨_, (pss_cons (ps_set (i := 3) sc_law_state.nd rfl (Or.inl rfl) (pe_listRg rfl (by rfl) T.b_list (prg_1 (by rfl) T.b_range (pv 1))))
      (pss_cons (ps_set (i := 4) sc_law_state.nd rfl (Or.inl rfl) (pe_lst pa_nil))
      (pss_cons (ps_for PassesOwn.never rfl (pi_range1 rfl T.b_range (pa_cons (pv 1) pa_nil)) (pg_name (i := 5) sc_law_state.nd rfl (Or.inl rfl)) (pss_cons (ps_set (i := 6) sc_law_state.nd rfl (Or.inl rfl) (pe_bm PySem.F.plainAttrs_list PySem.F.slot_list_pop PySem.F.type_list_pop mt_popAt (pv 3) (pa_cons (pe_op op_mod (pe_callTy (T := "int") (r := rInt1) call_int1 (by rfl) T.b_int (by decide +kernel) (pa_cons (pe_ix (r := rIxL K) ix_list (pv 0) (pv 5) (fun _ _ => rfl)) pa_nil)) (pe_callB (id := "len") (r := Evl.rLenS K) call_len_seq (by rfl) T.b_len PySem.boot_len (pa_cons (pv 3) pa_nil))) pa_nil)))
      (pss_one (ps_if (PW.pt (pw_and (pt_cmpR op_gt (pv 5) pe_int (nomark _)) (pw_and1 (pt_cmpR op_eq (pe_op op_mod (pe_callTy (T := "int") (r := rInt1) call_int1 (by rfl) T.b_int (by decide +kernel) (pa_cons (pe_ix (r := rIxL K) ix_list (pv 0) (pe_op op_add pe_int (pv 5)) (fun _ _ => rfl)) pa_nil)) pe_int) pe_int (nomark _))))) (pss_one (ps_asg (pe_op op_catA (pe_ix (r := rIxL K) ix_list (pv 4) (pe_un un_neg pe_int) (fun _ _ => rfl)) (pe_tup (pa_cons (pv 6) pa_nil))) (pg_sub (pv 4) (pe_un un_neg pe_int) set_list))) (pss_one (ps_expr (pe_bm PySem.F.plainAttrs_list PySem.F.slot_list_append PySem.F.type_list_append mt_append (pv 4) (pa_cons (pe_tup (pa_cons (pv 6) pa_nil)) pa_nil))))))))
      (pss_one (ps_ret (pe_tup (pa_cons (pe_callTy call_tuple_of (by rfl) T.b_tuple (by decide +kernel) (pa_cons (pv 4) pa_nil)) (pa_cons (pe_callTy call_tuple_of (by rfl) T.b_tuple (by decide +kernel) (pa_cons (pe_lc (own := [("_law_k", 5)]) (g := (gName 5)) (tt := tYes) rfl sc_law_state.nd (pi_range1 rfl T.b_range (pa_cons (pv 1) pa_nil)) (blkOk_by (N := ["_law_row_here", "_law_many", "_law_size", "_law_rest", "_law_groups", "_law_k", "_law_one"]) (sc := defScope s_law_state) (by decide +kernel)) (fun _ _ _ _ _ => (pg_name (i := 5) sc_law_state.nd rfl (Or.inl rfl))) (fun _ _ _ _ _ => pts_nil) (fun _ _ _ _ _ => (pe_op op_mod (pe_callTy (T := "int") (r := rInt1) call_int1 (by rfl) T.b_int (by decide +kernel) (pa_cons (pe_ix (r := rIxL K) ix_list (pv 0) (pe_op op_add pe_int (pv 5)) (fun _ _ => rfl)) pa_nil)) (pv 2)))) pa_nil)) pa_nil)))))))), ?_⟩
    try simp (maxSteps := 1000000) only [tSeq, tIfS, tTest, tOp, tUn, tCB, tCons, tNil, tVar, tC, rI0, rI, rU, rEq, rNe, tRet, tRetN, tAsg, gName, gSub, tBM, tBM0, tNext, tB, tNot, tAnd, tOr, tIf, tCall, tDrop, tBreak, tCont, L2.start, tDGet, sDPut, tTup, tLst, tDNewK, tRevL, rCat, rAppend, rPop, rSetL, tAndV, tOrV, tNotV, tSl, tPart, tNoPart, tM1, gTup, gCons, gNil, cxK, cxnK, List.map_cons, List.map_nil, List.length_cons, List.length_nil, List.replicate, List.cons_append, List.nil_append, List.append_nil, List.set_cons_zero, List.set_cons_succ, List.getElem?_cons_zero, List.getElem?_cons_succ, Option.some.injEq, V.ref.injEq, V.int.injEq, V.str.injEq, V.bl.injEq, V.ty.injEq, exists_eq_left', exists_eq_left, exists_and_left, List.cons.injEq, and_true, true_and, sc_ii, sc_ss, sc_bb, sc_ni, sc_in, sc_is, sc_si, sc_nn, decide_true, decide_false, reduceCtorEq, Bool.false_eq_true, if_true, if_false, ite_true, ite_false, exists_const, eq_self, false_and, and_false, or_false, false_or, exists_false, Evl.rLenS, rSum, wipe, tYes, exists_eq, exists_eq', rIxL, rIxT, rIxS, exists_and_right, gt_iff_lt, not_true_eq_false, not_false_eq_true, Bool.not_true, Bool.not_false, decide_eq_true_eq, Nat.reduceSub, Nat.reduceAdd, List.append_assoc, tChain, tDIn, tDNotIn, sDDel, tAug, ipI, rInt1_int, rInt1_bl, tLstRg, tRg1]
    refine ⟨RgOk.of_le (by omega) (by omega) (by omega) (by omega), fun rl nrl => ⟨Nat.zero_le _, fun gl ngl => ?_⟩⟩
    have rg : rl ≠ gl := ne_of_none upd_same ngl
    have ngl0 : H gl = none := by rw [upd_ne (Ne.symm rg)] at ngl; exact ngl
    refine forN n (by omega) (StIn l n size rl gl H) (fun R h => ⟨_, rfl, h⟩) ⟨rgI n, [], [], none, none, rfl, by rw [upd_ne rg, upd_same, rgV0], upd_same, .nil, by simp [rgI], by simp, (fun g h => nomatch h), (fun h => absurd h (Nat.lt_irrefl 0)), Nat.le_refl _, (Kp.new nrl).trans (Kp.new ngl)⟩ (fun j σ H' hj h => ?_) fun σ H' h => ?_
    · obtain ⟨rest, us, gs, c5, c6, rfl, h1, h2, hu2, rj, pm, ne, nz, gj, k⟩ := h
      have hl' := k _ _ not0 hl
      have gj2 : gs.length ≤ 3 := by omega
      have hj9 : ∀ m : Nat, m < 9 → ∃ d, ds[m]? = some d ∧ 0 ≤ d := fun m hm => ⟨ds[m]'(by omega), List.getElem?_eq_getElem _, (db _ (List.getElem_mem _)).1⟩
      obtain ⟨d0, e0, dn0⟩ := hj9 j (by omega)
      obtain ⟨d3, e3, dn3⟩ := hj9 (3 + j) (by omega)
      have rl0 : (0 : Int) < ((rest.length : Nat) : Int) := by omega
      have i0 := Int.emod_nonneg d0 (show ((rest.length : Nat) : Int) ≠ 0 by omega)
      have i1 := Int.emod_lt_of_pos d0 rl0
      have kx : (d0 % ((rest.length : Nat) : Int)).toNat < rest.length := by omega
      have rlgl : rl ≠ gl := rg
      have pmx : (gs.flatten ++ [rest[(d0 % ((rest.length : Nat) : Int)).toNat]] ++ rest.eraseIdx (d0 % ((rest.length : Nat) : Int)).toNat).Perm (rgI n) := by
        refine List.Perm.trans ?_ pm
        rw [List.append_assoc]
        exact List.Perm.append_left _ (perm_erase _ _ kx)
      have ex : rest[(d0 % ((rest.length : Nat) : Int)).toNat]? = some rest[(d0 % ((rest.length : Nat) : Int)).toNat] := List.getElem?_eq_getElem kx
      generalize rest[(d0 % ((rest.length : Nat) : Int)).toNat] = x at pmx ex
      have el : (rest.eraseIdx (d0 % ((rest.length : Nat) : Int)).toNat).length + (j + 1) = n := by rw [List.length_eraseIdx_of_lt kx]; omega
      have em : (rest.map V.int).eraseIdx (d0 % ((rest.length : Nat) : Int)).toNat = (rest.eraseIdx (d0 % ((rest.length : Nat) : Int)).toNat).map V.int := erase_mapI _ _
      have hr1 : (upd H' rl (.lst ((rest.map V.int).eraseIdx (d0 % ((rest.length : Nat) : Int)).toNat))) gl = some (.lst us) := by rw [upd_ne (Ne.symm rg)]; exact h2
      have tp1 : Tp H' (upd H' rl (.lst ((rest.map V.int).eraseIdx (d0 % ((rest.length : Nat) : Int)).toNat))) := (Tp.refl H').putL h1
      have k1 : Kp [] H (upd H' rl (.lst ((rest.map V.int).eraseIdx (d0 % ((rest.length : Nat) : Int)).toNat))) := k.wr nrl
      try simp (maxSteps := 1000000) only [tSeq, tIfS, tTest, tOp, tUn, tCB, tCons, tNil, tVar, tC, rI0, rI, rU, rEq, rNe, tRet, tRetN, tAsg, gName, gSub, tBM, tBM0, tNext, tB, tNot, tAnd, tOr, tIf, tCall, tDrop, tBreak, tCont, L2.start, tDGet, sDPut, tTup, tLst, tDNewK, tRevL, rCat, rAppend, rPop, rSetL, tAndV, tOrV, tNotV, tSl, tPart, tNoPart, tM1, gTup, gCons, gNil, cxK, cxnK, List.map_cons, List.map_nil, List.length_cons, List.length_nil, List.replicate, List.cons_append, List.nil_append, List.append_nil, List.set_cons_zero, List.set_cons_succ, List.getElem?_cons_zero, List.getElem?_cons_succ, Option.some.injEq, V.ref.injEq, V.int.injEq, V.str.injEq, V.bl.injEq, V.ty.injEq, exists_eq_left', exists_eq_left, exists_and_left, List.cons.injEq, and_true, true_and, sc_ii, sc_ss, sc_bb, sc_ni, sc_in, sc_is, sc_si, sc_nn, decide_true, decide_false, reduceCtorEq, Bool.false_eq_true, if_true, if_false, ite_true, ite_false, exists_const, eq_self, false_and, and_false, or_false, false_or, exists_false, Evl.rLenS, rSum, wipe, tYes, exists_eq, exists_eq', rIxL, rIxT, rIxS, exists_and_right, gt_iff_lt, not_true_eq_false, not_false_eq_true, Bool.not_true, Bool.not_false, decide_eq_true_eq, Nat.reduceSub, Nat.reduceAdd, List.append_assoc, tChain, tDIn, tDNotIn, sDDel, tAug, ipI, rInt1_int, rInt1_bl, rPopAt]
      refine ⟨.inl ⟨rfl, _, sq_l h1⟩, _, sq_l hl', .int d0, atI_nat (by rw [List.getElem?_map, e0]; rfl), ?_⟩
      try simp (maxSteps := 1000000) only [tSeq, tIfS, tTest, tOp, tUn, tCB, tCons, tNil, tVar, tC, rI0, rI, rU, rEq, rNe, tRet, tRetN, tAsg, gName, gSub, tBM, tBM0, tNext, tB, tNot, tAnd, tOr, tIf, tCall, tDrop, tBreak, tCont, L2.start, tDGet, sDPut, tTup, tLst, tDNewK, tRevL, rCat, rAppend, rPop, rSetL, tAndV, tOrV, tNotV, tSl, tPart, tNoPart, tM1, gTup, gCons, gNil, cxK, cxnK, List.map_cons, List.map_nil, List.length_cons, List.length_nil, List.replicate, List.cons_append, List.nil_append, List.append_nil, List.set_cons_zero, List.set_cons_succ, List.getElem?_cons_zero, List.getElem?_cons_succ, Option.some.injEq, V.ref.injEq, V.int.injEq, V.str.injEq, V.bl.injEq, V.ty.injEq, exists_eq_left', exists_eq_left, exists_and_left, List.cons.injEq, and_true, true_and, sc_ii, sc_ss, sc_bb, sc_ni, sc_in, sc_is, sc_si, sc_nn, decide_true, decide_false, reduceCtorEq, Bool.false_eq_true, if_true, if_false, ite_true, ite_false, exists_const, eq_self, false_and, and_false, or_false, false_or, exists_false, Evl.rLenS, rSum, wipe, tYes, exists_eq, exists_eq', rIxL, rIxT, rIxS, exists_and_right, gt_iff_lt, not_true_eq_false, not_false_eq_true, Bool.not_true, Bool.not_false, decide_eq_true_eq, Nat.reduceSub, Nat.reduceAdd, List.append_assoc, tChain, tDIn, tDNotIn, sDDel, tAug, ipI, rInt1_int, rInt1_bl, rPopAt]
      refine ⟨_, .inl (sq_l h1), ?_⟩
      rw [List.length_map]
      refine ⟨rl0, _, h1, by omega, by omega, _, by rw [List.length_map]; exact seqIx i0 i1, .int x, by rw [List.getElem?_map, ex]; rfl, ?_⟩
      generalize hG : (upd H' rl (.lst ((rest.map V.int).eraseIdx (d0 % ((rest.length : Nat) : Int)).toNat))) = G at hr1 tp1 k1 ⊢
      have hGr : G rl = some (.lst ((rest.eraseIdx (d0 % ((rest.length : Nat) : Int)).toNat).map V.int)) := by rw [← hG, upd_same, em]
      generalize rest.eraseIdx (d0 % ((rest.length : Nat) : Int)).toNat = rest' at pmx el hGr
      have hu3 := hu2.mono fun _ _ h => h.tp tp1
      -- a new group
      have fresh : tyV K "list" (.ref gl) G ∧ 1 ≤ sizeLine ∧ ∀ p, G p = none → ∃ ys, (upd G p (.tup [.int x])) gl = some (.lst ys) ∧ ys.length < sizeLine ∧ StIn l n size rl gl H (j + 1) [some (.ref l), some (.int (n : Nat)), some (.int (size : Nat)), some (.ref rl), some (.ref gl), some (.int (j : Nat)), some (.int x)] (upd (upd G p (.tup [.int x])) gl (.lst (ys ++ [.ref p]))) := by
        refine ⟨.inl ⟨rfl, _, sq_l hr1⟩, small (by decide), fun p np => ?_⟩
        have kp : Kp [] G (upd G p (.tup [.int x])) := Kp.new np
        have hg2 := kp _ _ not0 hr1
        refine ⟨us, hg2, smallL (by rw [hu2.len]; omega), rest', us ++ [.ref p], gs ++ [[x]], _, _, rfl, ?_, upd_same, ?_, el, ?_, ?_, fun _ => by simp, by simp; omega, (k1.trans kp).wr ngl0⟩
        · rw [upd_ne rg]; exact kp _ _ not0 hGr
        · have tq : Tp G (upd (upd G p (.tup [.int x])) gl (.lst (us ++ [.ref p]))) := kp.tps.putL hg2
          exact (hu3.mono fun _ _ h => h.tp tq).snoc (TI.tp ⟨p, rfl, upd_same⟩ ((Tp.refl _).putL hg2))
        · rw [List.flatten_append]; simpa using pmx
        · intro g hg
          rcases List.mem_append.mp hg with hg | hg
          · exact ne g hg
          · rw [List.mem_singleton.mp hg]; simp
      refine ite2 (fun hj0 => ?_) (fun hj0 => fresh)
      refine ⟨_, k1.ls not0 (sq_l hl), .int d3, ?_, ?_⟩
      · rw [show (3 : Int) + ((j : Nat) : Int) = ((3 + j : Nat) : Int) by omega]
        exact atI_nat (by rw [List.getElem?_map, e3]; rfl)
      try simp (maxSteps := 1000000) only [tSeq, tIfS, tTest, tOp, tUn, tCB, tCons, tNil, tVar, tC, rI0, rI, rU, rEq, rNe, tRet, tRetN, tAsg, gName, gSub, tBM, tBM0, tNext, tB, tNot, tAnd, tOr, tIf, tCall, tDrop, tBreak, tCont, L2.start, tDGet, sDPut, tTup, tLst, tDNewK, tRevL, rCat, rAppend, rPop, rSetL, tAndV, tOrV, tNotV, tSl, tPart, tNoPart, tM1, gTup, gCons, gNil, cxK, cxnK, List.map_cons, List.map_nil, List.length_cons, List.length_nil, List.replicate, List.cons_append, List.nil_append, List.append_nil, List.set_cons_zero, List.set_cons_succ, List.getElem?_cons_zero, List.getElem?_cons_succ, Option.some.injEq, V.ref.injEq, V.int.injEq, V.str.injEq, V.bl.injEq, V.ty.injEq, exists_eq_left', exists_eq_left, exists_and_left, List.cons.injEq, and_true, true_and, sc_ii, sc_ss, sc_bb, sc_ni, sc_in, sc_is, sc_si, sc_nn, decide_true, decide_false, reduceCtorEq, Bool.false_eq_true, if_true, if_false, ite_true, ite_false, exists_const, eq_self, false_and, and_false, or_false, false_or, exists_false, Evl.rLenS, rSum, wipe, tYes, exists_eq, exists_eq', rIxL, rIxT, rIxS, exists_and_right, gt_iff_lt, not_true_eq_false, not_false_eq_true, Bool.not_true, Bool.not_false, decide_eq_true_eq, Nat.reduceSub, Nat.reduceAdd, List.append_assoc, tChain, tDIn, tDNotIn, sDDel, tAug, ipI, rInt1_int, rInt1_bl]
      refine ⟨by decide, ?_⟩
      refine ite2 (fun _ => ?_) (fun _ => fresh)
      have hjp : 0 < j := by omega
      rcases List.eq_nil_or_concat gs with hz | ⟨gi, g, hz⟩
      · exact absurd hz (nz hjp)
      rw [List.concat_eq_append] at hz
      subst hz
      obtain ⟨ui, u, rfl, hui, a, rfl, ha⟩ := hu3.last
      refine ⟨_, sq_l hr1, .ref a, atI_last _ _, small (by decide), fun p np => ?_⟩
      have kp : Kp [] G (upd G p (.tup [.int x])) := Kp.new np
      have hg2 := kp _ _ not0 hr1
      have ha2 := kp _ _ not0 ha
      have gx : g.length ≤ n := by
        have hpl := pmx.length_eq
        unfold rgI at hpl
        simp only [List.flatten_append, List.length_append, List.length_map, List.length_range, List.flatten_cons, List.flatten_nil, List.append_nil, Int.toNat_natCast] at hpl
        omega
      refine catA_use ha2 upd_same (by rw [List.length_map]; simp; omega) fun r H2 hr2 k2 => ?_
      have hg3 := k2 _ _ not0 hg2
      refine ⟨_, hg3, ui.length, by rw [List.length_append]; exact ixN_last, ?_⟩
      have kk := kp.trans k2
      have tq : Tp G (upd H2 gl (.lst (ui ++ [.ref r]))) := kk.tps.putL hg3
      have es : (ui ++ [V.ref a]).set ui.length (.ref r) = ui ++ [.ref r] := by rw [List.set_append_right _ _ (Nat.le_refl _)]; simp
      rw [es]
      refine ⟨rest', ui ++ [.ref r], gi ++ [g ++ [x]], _, _, rfl, ?_, upd_same, (hui.mono fun _ _ h => h.tp tq).snoc (TI.tp ⟨r, rfl, by rw [hr2, List.map_append]; rfl⟩ ((Tp.refl _).putL hg3)), el, ?_, ?_, fun _ => by simp, by simp at gj ⊢; omega, (k1.trans kk).wr ngl0⟩
      · rw [upd_ne rg]; exact kk _ _ not0 hGr
      · simpa using pmx
      · intro g' hg'
        rcases List.mem_append.mp hg' with hg' | hg'
        · exact ne g' (List.mem_append_left _ hg')
        · rw [List.mem_singleton.mp hg']; simp
    · obtain ⟨rest, us, gs, c5, c6, rfl, h1, h2, hu2, rj, pm, ne, nz, gj, k⟩ := h
      try simp (maxSteps := 1000000) only [tSeq, tIfS, tTest, tOp, tUn, tCB, tCons, tNil, tVar, tC, rI0, rI, rU, rEq, rNe, tRet, tRetN, tAsg, gName, gSub, tBM, tBM0, tNext, tB, tNot, tAnd, tOr, tIf, tCall, tDrop, tBreak, tCont, L2.start, tDGet, sDPut, tTup, tLst, tDNewK, tRevL, rCat, rAppend, rPop, rSetL, tAndV, tOrV, tNotV, tSl, tPart, tNoPart, tM1, gTup, gCons, gNil, cxK, cxnK, List.map_cons, List.map_nil, List.length_cons, List.length_nil, List.replicate, List.cons_append, List.nil_append, List.append_nil, List.set_cons_zero, List.set_cons_succ, List.getElem?_cons_zero, List.getElem?_cons_succ, Option.some.injEq, V.ref.injEq, V.int.injEq, V.str.injEq, V.bl.injEq, V.ty.injEq, exists_eq_left', exists_eq_left, exists_and_left, List.cons.injEq, and_true, true_and, sc_ii, sc_ss, sc_bb, sc_ni, sc_in, sc_is, sc_si, sc_nn, decide_true, decide_false, reduceCtorEq, Bool.false_eq_true, if_true, if_false, ite_true, ite_false, exists_const, eq_self, false_and, and_false, or_false, false_or, exists_false, Evl.rLenS, rSum, wipe, tYes, exists_eq, exists_eq', rIxL, rIxT, rIxS, exists_and_right, gt_iff_lt, not_true_eq_false, not_false_eq_true, Bool.not_true, Bool.not_false, decide_eq_true_eq, Nat.reduceSub, Nat.reduceAdd, List.append_assoc, tChain, tDIn, tDNotIn, sDDel, tAug, ipI, rInt1_int, rInt1_bl]
      have r0 : rest = [] := List.eq_nil_of_length_eq_zero (by omega)
      rw [r0, List.append_nil] at pm
      refine ⟨_, .inl ⟨sq_l h2, fun t nt => ?_⟩⟩
      have kt : Kp [] H' (upd H' t (.tup us)) := Kp.new nt
      have hgs : TGs (upd H' t (.tup us)) (.ref t) gs := TGs.make hu2 nt
      have fl : gs.flatten.length = n := by rw [pm.length_eq]; unfold rgI; simp
      refine lcRgF n (by omega) (fun _ v (x : Int) => v = .int x) (fun k => ds.getD (6 + k) 0 % (size : Nat)) (fun _ _ _ _ _ h => h) (by simp) (fun R h => ⟨_, rfl, h⟩) (fun i H2 Q' hi k2 q' => ?_) fun z ws H2 nz2 hz hr2 k2 => ?_
      · obtain ⟨d6, e6⟩ : ∃ d, ds[6 + i]? = some d := ⟨_, List.getElem?_eq_getElem (by omega)⟩
        try simp (maxSteps := 1000000) only [tSeq, tIfS, tTest, tOp, tUn, tCB, tCons, tNil, tVar, tC, rI0, rI, rU, rEq, rNe, tRet, tRetN, tAsg, gName, gSub, tBM, tBM0, tNext, tB, tNot, tAnd, tOr, tIf, tCall, tDrop, tBreak, tCont, L2.start, tDGet, sDPut, tTup, tLst, tDNewK, tRevL, rCat, rAppend, rPop, rSetL, tAndV, tOrV, tNotV, tSl, tPart, tNoPart, tM1, gTup, gCons, gNil, cxK, cxnK, List.map_cons, List.map_nil, List.length_cons, List.length_nil, List.replicate, List.cons_append, List.nil_append, List.append_nil, List.set_cons_zero, List.set_cons_succ, List.getElem?_cons_zero, List.getElem?_cons_succ, Option.some.injEq, V.ref.injEq, V.int.injEq, V.str.injEq, V.bl.injEq, V.ty.injEq, exists_eq_left', exists_eq_left, exists_and_left, List.cons.injEq, and_true, true_and, sc_ii, sc_ss, sc_bb, sc_ni, sc_in, sc_is, sc_si, sc_nn, decide_true, decide_false, reduceCtorEq, Bool.false_eq_true, if_true, if_false, ite_true, ite_false, exists_const, eq_self, false_and, and_false, or_false, false_or, exists_false, Evl.rLenS, rSum, wipe, tYes, exists_eq, exists_eq', rIxL, rIxT, rIxS, exists_and_right, gt_iff_lt, not_true_eq_false, not_false_eq_true, Bool.not_true, Bool.not_false, decide_eq_true_eq, Nat.reduceSub, Nat.reduceAdd, List.append_assoc, tChain, tDIn, tDNotIn, sDDel, tAug, ipI, rInt1_int, rInt1_bl]
        refine ⟨_, sq_l ((kt.trans k2) _ _ not0 (k _ _ not0 hl)), .int d6, ?_, ?_⟩
        · rw [show (6 : Int) + ((i : Nat) : Int) = ((6 + i : Nat) : Int) by omega]
          exact atI_nat (by rw [List.getElem?_map, e6]; rfl)
        · have e7 : ds.getD (6 + i) 0 = d6 := by rw [List.getD_eq_getElem?_getD, e6]; rfl
          rw [← e7]
          try simp (maxSteps := 1000000) only [tSeq, tIfS, tTest, tOp, tUn, tCB, tCons, tNil, tVar, tC, rI0, rI, rU, rEq, rNe, tRet, tRetN, tAsg, gName, gSub, tBM, tBM0, tNext, tB, tNot, tAnd, tOr, tIf, tCall, tDrop, tBreak, tCont, L2.start, tDGet, sDPut, tTup, tLst, tDNewK, tRevL, rCat, rAppend, rPop, rSetL, tAndV, tOrV, tNotV, tSl, tPart, tNoPart, tM1, gTup, gCons, gNil, cxK, cxnK, List.map_cons, List.map_nil, List.length_cons, List.length_nil, List.replicate, List.cons_append, List.nil_append, List.append_nil, List.set_cons_zero, List.set_cons_succ, List.getElem?_cons_zero, List.getElem?_cons_succ, Option.some.injEq, V.ref.injEq, V.int.injEq, V.str.injEq, V.bl.injEq, V.ty.injEq, exists_eq_left', exists_eq_left, exists_and_left, List.cons.injEq, and_true, true_and, sc_ii, sc_ss, sc_bb, sc_ni, sc_in, sc_is, sc_si, sc_nn, decide_true, decide_false, reduceCtorEq, Bool.false_eq_true, if_true, if_false, ite_true, ite_false, exists_const, eq_self, false_and, and_false, or_false, false_or, exists_false, Evl.rLenS, rSum, wipe, tYes, exists_eq, exists_eq', rIxL, rIxT, rIxS, exists_and_right, gt_iff_lt, not_true_eq_false, not_false_eq_true, Bool.not_true, Bool.not_false, decide_eq_true_eq, Nat.reduceSub, Nat.reduceAdd, List.append_assoc, tChain, tDIn, tDNotIn, sDDel, tAug, ipI, rInt1_int, rInt1_bl]
          exact ⟨by omega, q' _ H2 rfl (Kp.refl _ _)⟩
      · have eu := rwInts_eq hr2
        subst eu
        refine ⟨z, rfl, _, .inl ⟨sq_l hz, fun t2 nt2 => ⟨small (by decide), fun s ns => ?_⟩⟩⟩
        have k3 : Kp [] H2 (upd H2 t2 (.tup (((List.range n).map fun k => ds.getD (6 + k) 0 % ((size : Nat) : Int)).map V.int))) := Kp.new nt2
        refine q _ (gs, (List.range n).map fun k => ds.getD (6 + k) 0 % ((size : Nat) : Int)) _ (TSt.make (hgs.tp (k2.trans k3).tps) TI.make ns) ?_ ⟨(show gs.length ≤ 50 by omega), (show gs.flatten.length ≤ 50 by omega), by simp; omega⟩ ((k.trans kt).trans ((k2.trans k3).trans (Kp.new ns)))
        unfold goodSt goodGs
        simp only [Bool.and_eq_true, decide_eq_true_eq, List.all_eq_true, List.isPerm_iff]
        refine ⟨by simp, ⟨fun g hg => List.length_pos_iff.mpr (ne g hg), fun x hx => ?_, pm⟩, fun x hx => ?_⟩
        · have hx' := pm.mem_iff.mp hx
          unfold rgI at hx'
          obtain ⟨i, hi, rfl⟩ := List.mem_map.mp hx'
          have := List.mem_range.mp hi
          unfold below
          rw [decide_eq_true (by omega), decide_eq_true (by omega)]; rfl
        · obtain ⟨i, hi, rfl⟩ := List.mem_map.mp hx
          have m1 := Int.emod_nonneg (ds.getD (6 + i) 0) (show ((size : Nat) : Int) ≠ 0 by omega)
          have m2 := Int.emod_lt_of_pos (ds.getD (6 + i) 0) (show (0 : Int) < ((size : Nat) : Int) by omega)
          unfold below
          rw [decide_eq_true m1, decide_eq_true m2]; rfl
end
end My

set_option Elab.async false
set_option linter.all false
set_option maxRecDepth 100000
set_option maxHeartbeats 4000000
namespace My
open PySem L2 NdefX StX
abbrev s_law : Stmt := top 33
theorem sc_law : FnScope ["_law_script", "_law_head", "_law_many", "_law_size", "_law_a", "_law_k", "_law_mode", "_law_other", "_law_b", "_law_pairs_here", "_law_first", "_law_second", "_law_made", "e"] ["_law_script"] (defScope s_law) := ⟨rfl, rfl, rfl, by decide +kernel, rfl, by decide +kernel, by decide +kernel⟩
/-! ### nothing parts a chooser from itself or from the free one; ladders are good -/
theorem no_self {c : Nat} {a : List Cst} : ∀ {w : List Pr} {x : Int}, ¬ BO.Par (mvC c a) (stC a a) (x, x) w
  | [], _, h => h
  | z :: w, x, ⟨hz, h⟩ => by
    have hb : letG z.1 z.2 (stOf a x).1 = true := (List.mem_filter.mp hz).2
    have es : stC a a (x, x) z = some (nxt a x z.2, nxt a x z.2) := by
      unfold stC
      exact if_pos hb
    rw [es] at h
    exact no_self h
theorem letG_one {ab g : List Int} {k : Int} (h : k ∈ ab) (hg : k ∈ g) : letG ab k [g] = true := by
  show (if ab.any (fun k => decide (k ∈ g)) = true then decide (k ∈ g) else false) = true
  rw [if_pos (List.any_eq_true.mpr ⟨k, h, decide_eq_true hg⟩), decide_eq_true hg]
theorem no_free {c : Nat} (c1 : 1 ≤ c) (c3 : c ≤ 3) {a : List Cst} : ∀ {w : List Pr} {x : Int}, ¬ BO.Par (mvC c a) (stC a (usualC 0 (c : Nat))) (x, 0) w
  | [], _, h => h
  | z :: w, x, ⟨hz, h⟩ => by
    obtain ⟨_, z0, z1, zin⟩ := (ps_ok c c1 c3).2.2.1 z (mv_in hz)
    have e0 : stOf (usualC 0 (c : Nat)) 0 = ([rgI (c : Nat)], zerosI (c : Nat)) := rfl
    have hm : z.2 ∈ rgI (c : Nat) := by
      unfold rgI
      exact List.mem_map.mpr ⟨z.2.toNat, List.mem_range.mpr (by omega), by omega⟩
    have hn : nxt (usualC 0 (c : Nat)) 0 z.2 = 0 := by
      unfold nxt
      rw [e0]
      unfold zerosI
      rw [List.getD_eq_getElem?_getD, List.getElem?_map]
      cases (List.range ((c : Nat) : Int).toNat)[z.2.toNat]? <;> rfl
    have es : stC a (usualC 0 (c : Nat)) (x, 0) z = some (nxt a x z.2, 0) := by
      unfold stC
      rw [e0, if_pos (letG_one zin hm), hn]
    rw [es] at h
    exact no_free c1 c3 h
theorem lad_good {n : Nat} {sts : List Cst} (h : GoodC (n : Nat) sts) : GoodC (n : Nat) (ladC sts n) := by
  obtain ⟨h1, h2, h3, h4, h5⟩ := h
  have hl : (ladC sts n).length = sts.length := by
    unfold ladC
    simp
  refine ⟨h1, h2, by omega, by omega, fun s hs => ?_⟩
  rw [hl]
  unfold ladC at hs
  obtain ⟨k, hk, rfl⟩ := List.mem_map.mp hs
  have hk := List.mem_range.mp hk
  have gs := (GoodC.st ⟨h1, h2, h3, h4, h5⟩ (s := (k : Nat)) (by omega) (by omega)).2
  obtain ⟨g1, g2, g3, g4⟩ := good_parts gs (by omega)
  refine good_mk ?_ (fun g hg => (g2 g hg).2) (fun r hr => ?_) g4
  · unfold ladR
    simp
  · unfold ladR at hr
    rcases List.mem_or_eq_of_mem_set hr with hr | hr
    · rw [(List.mem_replicate.mp hr).2]
      exact ⟨Int.le_refl _, by omega⟩
    · rw [hr]
      exact ⟨Int.emod_nonneg _ (by omega), Int.emod_lt_of_pos _ (by omega)⟩
theorem ch_madeH {CH BN TL BC : Addr} {H : Hp} {Q' : Hp → Prop} {E : XK} {x dx l : Addr} {c : Int} {us : List V} {sts : List Cst} (nx : H x = none) (ndx : H dx = none) (ne : dx ≠ x) (hl : H l = some (.lst us)) (hr : Rw (TSt H) us sts) (g : GoodC c sts) (sz : ∀ s ∈ sts, SzSt s)
    (q : ∀ H', ChAt CH H' x c sts → Kp [] H H' → Q' H') : spInit CH BN TL BC [.ref x, .int c, .ref l] (upd (upd H dx (.own x)) x (.ins CH dx [])) (fun v H2 => v = .non ∧ Q' H2) E :=
  ch_made (Q := fun _ H => Q' H) nx ndx ne hl hr g sz fun l' H' _ h1 h2 h3 k => q H' ⟨dx, l', _, h1, h2, h3⟩ k
structure BtE (K : PySem.W.Frag) (mg : Str → Option Value) (CH BN : Addr) : Prop extends BtW mg where
  k_Chooser : mg "Chooser" = some (.ref CH)
  k_BadNumber : mg "BadNumber" = some (.ref BN)
  XB : XfC K BN
  nB : PySem.W.findIn K (.ref BN) "number" = some none
  eB : PySem.W.exmOne K (.ref BN) (.ref BN) = some true
def LwA (a dl : Addr) (n z : Nat) (H4 : Hp) (σ : L2.St) (H' : Hp) : Prop := ∃ (al : Addr) (ua : List V) (sts : List Cst), σ = [some (.ref a), some (.ref dl), some (.int (n : Nat)), some (.int (z : Nat)), some (.ref al), none, none, none, none, none, none, none, none, none] ∧ H' al = some (.lst ua) ∧ Rw (TSt H') ua sts ∧ GoodC (n : Nat) sts ∧ sts.length = z ∧ Kp [] H4 H'
def LwB (a dl : Addr) (n z : Nat) (H4 : Hp) (σ : L2.St) (H' : Hp) : Prop := ∃ (al bl : Addr) (ua ub : List V) (sta stb : List Cst) (c6 c7 : Option V), σ = [some (.ref a), some (.ref dl), some (.int (n : Nat)), some (.int (z : Nat)), some (.ref al), none, c6, c7, some (.ref bl), none, none, none, none, none] ∧ H' al = some (.lst ua) ∧ Rw (TSt H') ua sta ∧ GoodC (n : Nat) sta ∧ H' bl = some (.lst ub) ∧ Rw (TSt H') ub stb ∧ GoodC (n : Nat) stb ∧ Kp [] H4 H'
def LwC (CH : Addr) (n : Nat) (rest : List (Option V)) (c13 : Option V) (x y : Addr) (sx sy : List Cst) (H5 : Hp) (σ : L2.St) (H' : Hp) : Prop := ∃ (c12 : Option V), σ = rest ++ [some (.ref x), some (.ref y), c12, c13] ∧ Kp [] H5 H'
section
variable {P : Program} {w : World} {K : PySem.W.Frag} {mg : Str → Option Value} {base : Heap}
theorem okz_law_number {f : Addr} {fd : FuncData} (D : Df K mg "_law_number" s_law_number ["_law_x", "_law_due_here"] f fd) (T : BtS mg) : FnZ P w K mg base CX0 1 f fd ["_law_x", "_law_due_here"] spNumber := by
  obtain ⟨oc, od, kV, doc, pm, an, cdv, ct, osl, hfd, lk, hcd⟩ := D.F.ex
  rw [hfd] at lk ⊢
  refine fn_ofZ lk hcd sc_law_number (fun vs H Q E h => ?_) (fun A outer s H vs Q E h => ?_)
  · obtain ⟨i, j, rfl, _⟩ := h
    rfl
  · obtain ⟨i, j, rfl, q⟩ := h
    refine ⟨_, (pss_one (ps_ret (pe_and (pe_callB (id := "isinstance") (r := rIsi K) call_isi (by rfl) T.b_isinstance (by decide +kernel) (pa_cons (pv 0) (pa_cons (pe_bltn (v := .ty "int") (by rfl) T.b_int (by decide +kernel) rfl) pa_nil))) (pe_and (pe_not (pe_callB (id := "isinstance") (r := rIsi K) call_isi (by rfl) T.b_isinstance (by decide +kernel) (pa_cons (pv 0) (pa_cons (pe_bltn (v := .ty "bool") (by rfl) T.b_bool (by decide +kernel) rfl) pa_nil)))) (pe_one (pe_cmpR op_eq (pv 0) (pv 1) (nomark _))))))), ?_⟩
    try simp (maxSteps := 1000000) only [tSeq, tIfS, tTest, tOp, tUn, tCB, tCons, tNil, tVar, tC, rI0, rI, rU, rEq, rNe, tRet, tRetN, tAsg, gName, gSub, tBM, tBM0, tNext, tB, tNot, tAnd, tOr, tIf, tCall, tDrop, tBreak, tCont, L2.start, tDGet, sDPut, tTup, tLst, tDNewK, tRevL, rCat, rAppend, rPop, rSetL, tAndV, tOrV, tNotV, tSl, tPart, tNoPart, tM1, gTup, gCons, gNil, cxK, cxnK, List.map_cons, List.map_nil, List.length_cons, List.length_nil, List.replicate, List.cons_append, List.nil_append, List.append_nil, List.set_cons_zero, List.set_cons_succ, List.getElem?_cons_zero, List.getElem?_cons_succ, Option.some.injEq, V.ref.injEq, V.int.injEq, V.str.injEq, V.bl.injEq, V.ty.injEq, exists_eq_left', exists_eq_left, exists_and_left, List.cons.injEq, and_true, true_and, sc_ii, sc_ss, sc_bb, sc_ni, sc_in, sc_is, sc_si, sc_nn, decide_true, decide_false, reduceCtorEq, Bool.false_eq_true, if_true, if_false, ite_true, ite_false, exists_const, eq_self, false_and, and_false, or_false, false_or, exists_false, Evl.rLenS, rSum, wipe, tYes, exists_eq, exists_eq', rIxL, rIxT, rIxS, exists_and_right, gt_iff_lt, not_true_eq_false, not_false_eq_true, Bool.not_true, Bool.not_false, decide_eq_true_eq, Nat.reduceSub, Nat.reduceAdd, List.append_assoc, tChain, tDIn, tDNotIn, sDDel, tAug, ipI, rInt1_int, rInt1_bl]
    refine isi_int_int ?_
    try simp (maxSteps := 1000000) only [tSeq, tIfS, tTest, tOp, tUn, tCB, tCons, tNil, tVar, tC, rI0, rI, rU, rEq, rNe, tRet, tRetN, tAsg, gName, gSub, tBM, tBM0, tNext, tB, tNot, tAnd, tOr, tIf, tCall, tDrop, tBreak, tCont, L2.start, tDGet, sDPut, tTup, tLst, tDNewK, tRevL, rCat, rAppend, rPop, rSetL, tAndV, tOrV, tNotV, tSl, tPart, tNoPart, tM1, gTup, gCons, gNil, cxK, cxnK, List.map_cons, List.map_nil, List.length_cons, List.length_nil, List.replicate, List.cons_append, List.nil_append, List.append_nil, List.set_cons_zero, List.set_cons_succ, List.getElem?_cons_zero, List.getElem?_cons_succ, Option.some.injEq, V.ref.injEq, V.int.injEq, V.str.injEq, V.bl.injEq, V.ty.injEq, exists_eq_left', exists_eq_left, exists_and_left, List.cons.injEq, and_true, true_and, sc_ii, sc_ss, sc_bb, sc_ni, sc_in, sc_is, sc_si, sc_nn, decide_true, decide_false, reduceCtorEq, Bool.false_eq_true, if_true, if_false, ite_true, ite_false, exists_const, eq_self, false_and, and_false, or_false, false_or, exists_false, Evl.rLenS, rSum, wipe, tYes, exists_eq, exists_eq', rIxL, rIxT, rIxS, exists_and_right, gt_iff_lt, not_true_eq_false, not_false_eq_true, Bool.not_true, Bool.not_false, decide_eq_true_eq, Nat.reduceSub, Nat.reduceAdd, List.append_assoc, tChain, tDIn, tDNotIn, sDDel, tAug, ipI, rInt1_int, rInt1_bl]
    refine isi_int_bool ?_
    try simp (maxSteps := 1000000) only [tSeq, tIfS, tTest, tOp, tUn, tCB, tCons, tNil, tVar, tC, rI0, rI, rU, rEq, rNe, tRet, tRetN, tAsg, gName, gSub, tBM, tBM0, tNext, tB, tNot, tAnd, tOr, tIf, tCall, tDrop, tBreak, tCont, L2.start, tDGet, sDPut, tTup, tLst, tDNewK, tRevL, rCat, rAppend, rPop, rSetL, tAndV, tOrV, tNotV, tSl, tPart, tNoPart, tM1, gTup, gCons, gNil, cxK, cxnK, List.map_cons, List.map_nil, List.length_cons, List.length_nil, List.replicate, List.cons_append, List.nil_append, List.append_nil, List.set_cons_zero, List.set_cons_succ, List.getElem?_cons_zero, List.getElem?_cons_succ, Option.some.injEq, V.ref.injEq, V.int.injEq, V.str.injEq, V.bl.injEq, V.ty.injEq, exists_eq_left', exists_eq_left, exists_and_left, List.cons.injEq, and_true, true_and, sc_ii, sc_ss, sc_bb, sc_ni, sc_in, sc_is, sc_si, sc_nn, decide_true, decide_false, reduceCtorEq, Bool.false_eq_true, if_true, if_false, ite_true, ite_false, exists_const, eq_self, false_and, and_false, or_false, false_or, exists_false, Evl.rLenS, rSum, wipe, tYes, exists_eq, exists_eq', rIxL, rIxT, rIxS, exists_and_right, gt_iff_lt, not_true_eq_false, not_false_eq_true, Bool.not_true, Bool.not_false, decide_eq_true_eq, Nat.reduceSub, Nat.reduceAdd, List.append_assoc, tChain, tDIn, tDNotIn, sDDel, tAug, ipI, rInt1_int, rInt1_bl]
    exact q
def spLaw (K : PySem.W.Frag) : Sp := fun vs H Q _ => ∃ (a : Addr) (ns : List Int), vs = [.ref a] ∧ SqL K H a (ns.map V.int) ∧ ns.length ≤ 63 ∧ ∀ H', Q (.bl true) H'
theorem ok_law {f : Addr} {fd : FuncData} (D : Df K mg "law" s_law ["_law_script"] f fd) {CH BN TL BC : Addr} (T : BtE K mg CH BN) (C : ChC K mg CH) {fI : Addr} {fdI : FuncData} {mc0 mc1 : Value} {p0 p1 f0 f1 : Addr} {fd0 fd1 : FuncData}
    (M_Chooser : Mk K CH fI) (bI_Chooser : Binds K fdI ["self", "callers", "states"] []) (G_Chooser_init : FnOk P w K mg base (L2.CX P w) 4 fI fdI ["self", "callers", "states"] (spInit CH BN TL BC))
    (ST_Chooser_free : StaC K CH mc0 "free" p0 f0) (b_Chooser_free : Binds K fd0 ["callers"] []) (G_Chooser_free : FnOk P w K mg base (L2.CX P w) 6 f0 fd0 ["callers"] (spStat CH BN 0))
    (ST_Chooser_ranked : StaC K CH mc1 "ranked" p1 f1) (b_Chooser_ranked : Binds K fd1 ["callers"] []) (G_Chooser_ranked : FnOk P w K mg base (L2.CX P w) 6 f1 fd1 ["callers"] (spStat CH BN 1))
    {g1 : Addr} {gd1 : FuncData} (D_law_row : Df K mg "_law_row" s_law_row ["_law_cell_here", "_law_many"] g1 gd1) (G_law_row : FnOk P w K mg base CX0 1 g1 gd1 ["_law_cell_here", "_law_many"] spRow)
    {g2 : Addr} {gd2 : FuncData} (D_law_cell : Df K mg "_law_cell" s_law_cell ["_law_script", "_law_k"] g2 gd2) (G_law_cell : FnOk P w K mg base CX0 1 g2 gd2 ["_law_script", "_law_k"] (spCell K))
    {g3 : Addr} {gd3 : FuncData} (D_law_state : Df K mg "_law_state" s_law_state ["_law_row_here", "_law_many", "_law_size"] g3 gd3) (G_law_state : FnOk P w K mg base CX0 1 g3 gd3 ["_law_row_here", "_law_many", "_law_size"] spLState)
    {g4 : Addr} {gd4 : FuncData} (D_law_ladder : Df K mg "_law_ladder" s_law_ladder ["_law_states", "_law_many"] g4 gd4) (G_law_ladder : FnOk P w K mg base CX0 1 g4 gd4 ["_law_states", "_law_many"] spLad)
    {g5 : Addr} {gd5 : FuncData} (D_law_over : Df K mg "_law_over" s_law_over ["_law_script", "_law_place", "_law_states", "_law_many", "_law_mode", "_law_head"] g5 gd5) (G_law_over : FnOk P w K mg base CX0 2 g5 gd5 ["_law_script", "_law_place", "_law_states", "_law_many", "_law_mode", "_law_head"] (spOver K))
    {g6 : Addr} {gd6 : FuncData} (D_law_pairs : Df K mg "_law_pairs" s_law_pairs ["_law_many"] g6 gd6) (G_law_pairs : FnOk P w K mg base CX0 1 g6 gd6 ["_law_many"] spPs)
    {g7 : Addr} {gd7 : FuncData} (D_law_parts : Df K mg "_law_parts" s_law_parts ["_law_one", "_law_other", "_law_a", "_law_b", "_law_pairs_here"] g7 gd7) (G_law_parts : FnOk P w K mg base CX0 7 g7 gd7 ["_law_one", "_law_other", "_law_a", "_law_b", "_law_pairs_here"] (spParts CH))
    {g8 : Addr} {gd8 : FuncData} (D_parting_row : Df K mg "parting_row" s_parting_row ["a", "b"] g8 gd8) (G_parting_row : FnOk P w K mg base (L2.CX P w) 6 g8 gd8 ["a", "b"] (spPart CH BN))
    {g9 : Addr} {gd9 : FuncData} (D_law_number : Df K mg "_law_number" s_law_number ["_law_x", "_law_due_here"] g9 gd9) (Z_law_number : FnZ P w K mg base CX0 1 g9 gd9 ["_law_x", "_law_due_here"] spNumber) : FnOk P w K mg base CX0 9 f fd ["_law_script"] (spLaw K) := by
  refine D.F.ok sc_law (fun vs H Q E h => ?_) (fun cdv A outer s H vs Q E hr h => ?_)
  · obtain ⟨_, _, rfl, _⟩ := h
    rfl
  · obtain ⟨a, ns, rfl, hS, hl, q⟩ := h
    have XF_BadNumber := T.XB
    have NO_number := T.nB
    refine ⟨_, (pss_cons (ps_set (i := 1) sc_law.nd rfl (Or.inl rfl) (pe_call G_law_row (hr.mono (by decide)) rfl D_law_row.g D_law_row.F.kp D_law_row.b .nil pass0 (pa_cons (pe_call G_law_cell (hr.mono (by decide)) rfl D_law_cell.g D_law_cell.F.kp D_law_cell.b .nil pass0 (pa_cons (pv 0) (pa_cons pe_int pa_nil))) (pa_cons pe_int pa_nil))))
      (pss_cons (ps_set (i := 2) sc_law.nd rfl (Or.inr rfl) (pe_ix (r := rIxT K) ix_tup (pe_tup (pa_cons pe_int (pa_cons pe_int (pa_cons pe_int (pa_cons pe_int pa_nil))))) (pe_op op_mod (pe_callTy (T := "int") (r := rInt1) call_int1 (by rfl) T.b_int (by decide +kernel) (pa_cons (pe_ix (r := rIxL K) ix_list (pv 1) pe_int (fun _ _ => rfl)) pa_nil)) pe_int) (fun _ _ => rfl)))
      (pss_cons (ps_set (i := 3) sc_law.nd rfl (Or.inr rfl) (pe_op op_add pe_int (pe_op op_mod (pe_callTy (T := "int") (r := rInt1) call_int1 (by rfl) T.b_int (by decide +kernel) (pa_cons (pe_ix (r := rIxL K) ix_list (pv 1) pe_int (fun _ _ => rfl)) pa_nil)) (pe_ix (r := rIxT K) ix_tup (pe_tup (pa_cons pe_int (pa_cons pe_int (pa_cons pe_int (pa_cons pe_int pa_nil))))) (pe_op op_mod (pe_callTy (T := "int") (r := rInt1) call_int1 (by rfl) T.b_int (by decide +kernel) (pa_cons (pe_ix (r := rIxL K) ix_list (pv 1) pe_int (fun _ _ => rfl)) pa_nil)) pe_int) (fun _ _ => rfl)))))
      (pss_cons (ps_setLc (i := 4) (own := [("_law_k", 5)]) (g := (gName 5)) (tt := tYes) rfl sc_law.nd rfl rfl (sw_true rfl rfl rfl (by decide +kernel)) (pi_range1 rfl T.b_range (pa_cons (pv 3) pa_nil)) (blkOk_by (N := ["_law_script", "_law_head", "_law_many", "_law_size", "_law_a", "_law_k", "_law_mode", "_law_other", "_law_b", "_law_pairs_here", "_law_first", "_law_second", "_law_made", "e"]) (sc := defScope s_law) (by decide +kernel)) (fun _ _ _ _ _ => (pg_name (i := 5) sc_law.nd rfl (Or.inl rfl))) (fun _ _ _ _ _ => pts_nil) (fun _ _ _ _ _ => (pe_call G_law_state (hr.mono (by decide)) rfl D_law_state.g D_law_state.F.kp D_law_state.b .nil pass0 (pa_cons (pe_call G_law_row (hr.mono (by decide)) rfl D_law_row.g D_law_row.F.kp D_law_row.b .nil pass0 (pa_cons (pe_call G_law_cell (hr.mono (by decide)) rfl D_law_cell.g D_law_cell.F.kp D_law_cell.b .nil pass0 (pa_cons (pv 0) (pa_cons (pe_op op_add pe_int (pv 5)) pa_nil))) (pa_cons pe_int pa_nil))) (pa_cons (pv 2) (pa_cons (pv 3) pa_nil))))))
      (pss_cons (ps_if (pt_cmpR op_eq (pe_op op_mod (pe_callTy (T := "int") (r := rInt1) call_int1 (by rfl) T.b_int (by decide +kernel) (pa_cons (pe_ix (r := rIxL K) ix_list (pv 1) pe_int (fun _ _ => rfl)) pa_nil)) pe_int) pe_int (nomark _)) (pss_one (ps_set (i := 4) sc_law.nd rfl (Or.inl rfl) (pe_call G_law_ladder (hr.mono (by decide)) rfl D_law_ladder.g D_law_ladder.F.kp D_law_ladder.b .nil pass0 (pa_cons (pv 4) (pa_cons (pv 2) pa_nil))))) pss_nil)
      (pss_cons (ps_set (i := 6) sc_law.nd rfl (Or.inl rfl) (pe_op op_mod (pe_callTy (T := "int") (r := rInt1) call_int1 (by rfl) T.b_int (by decide +kernel) (pa_cons (pe_ix (r := rIxL K) ix_list (pv 1) pe_int (fun _ _ => rfl)) pa_nil)) pe_int))
      (pss_cons (ps_if (pt_cmpR op_eq (pv 6) pe_int (nomark _)) (pss_cons (ps_set (i := 7) sc_law.nd rfl (Or.inr rfl) (pe_op op_add pe_int (pe_op op_mod (pe_callTy (T := "int") (r := rInt1) call_int1 (by rfl) T.b_int (by decide +kernel) (pa_cons (pe_ix (r := rIxL K) ix_list (pv 1) pe_int (fun _ _ => rfl)) pa_nil)) (pe_ix (r := rIxT K) ix_tup (pe_tup (pa_cons pe_int (pa_cons pe_int (pa_cons pe_int (pa_cons pe_int pa_nil))))) (pe_op op_mod (pe_callTy (T := "int") (r := rInt1) call_int1 (by rfl) T.b_int (by decide +kernel) (pa_cons (pe_ix (r := rIxL K) ix_list (pv 1) pe_int (fun _ _ => rfl)) pa_nil)) pe_int) (fun _ _ => rfl)))))
      (pss_one (ps_setLc (i := 8) (own := [("_law_k", 5)]) (g := (gName 5)) (tt := tYes) rfl sc_law.nd rfl rfl (sw_true rfl rfl rfl (by decide +kernel)) (pi_range1 rfl T.b_range (pa_cons (pv 7) pa_nil)) (blkOk_by (N := ["_law_script", "_law_head", "_law_many", "_law_size", "_law_a", "_law_k", "_law_mode", "_law_other", "_law_b", "_law_pairs_here", "_law_first", "_law_second", "_law_made", "e"]) (sc := defScope s_law) (by decide +kernel)) (fun _ _ _ _ _ => (pg_name (i := 5) sc_law.nd rfl (Or.inl rfl))) (fun _ _ _ _ _ => pts_nil) (fun _ _ _ _ _ => (pe_call G_law_state (hr.mono (by decide)) rfl D_law_state.g D_law_state.F.kp D_law_state.b .nil pass0 (pa_cons (pe_call G_law_row (hr.mono (by decide)) rfl D_law_row.g D_law_row.F.kp D_law_row.b .nil pass0 (pa_cons (pe_call G_law_cell (hr.mono (by decide)) rfl D_law_cell.g D_law_cell.F.kp D_law_cell.b .nil pass0 (pa_cons (pv 0) (pa_cons (pe_op op_add (pe_op op_add pe_int (pv 3)) (pv 5)) pa_nil))) (pa_cons pe_int pa_nil))) (pa_cons (pv 2) (pa_cons (pv 7) pa_nil)))))))) (pss_one (ps_set (i := 8) sc_law.nd rfl (Or.inl rfl) (pe_call G_law_over (hr.mono (by decide)) rfl D_law_over.g D_law_over.F.kp D_law_over.b .nil pass0 (pa_cons (pv 0) (pa_cons (pe_op op_add pe_int (pv 3)) (pa_cons (pv 4) (pa_cons (pv 2) (pa_cons (pv 6) (pa_cons (pv 1) pa_nil))))))))))
      (pss_cons (ps_set (i := 9) sc_law.nd rfl (Or.inl rfl) (pe_call G_law_pairs (hr.mono (by decide)) rfl D_law_pairs.g D_law_pairs.F.kp D_law_pairs.b .nil pass0 (pa_cons (pv 2) pa_nil)))
      (pss_cons (ps_set (i := 10) sc_law.nd rfl (Or.inl rfl) (pe_make M_Chooser G_Chooser_init (hr.mono (by decide)) rfl C.k bI_Chooser .nil passL (pa_cons (pv 2) (pa_cons (pe_callTy call_list_of (by rfl) T.b_list (by decide +kernel) (pa_cons (pv 4) pa_nil)) pa_nil))))
      (pss_cons (ps_set (i := 11) sc_law.nd rfl (Or.inl rfl) (pe_make M_Chooser G_Chooser_init (hr.mono (by decide)) rfl C.k bI_Chooser .nil passL (pa_cons (pv 2) (pa_cons (pe_callTy call_list_of (by rfl) T.b_list (by decide +kernel) (pa_cons (pv 8) pa_nil)) pa_nil))))
      (pss_cons (ps_if (PW.pt (pw_or (pt_not (pt_val (pe_call G_law_parts (hr.mono (by decide)) rfl D_law_parts.g D_law_parts.F.kp D_law_parts.b .nil pass0 (pa_cons (pv 10) (pa_cons (pv 11) (pa_cons (pv 4) (pa_cons (pv 8) (pa_cons (pv 9) pa_nil)))))))) (pw_or1 (pt_not (pt_val (pe_call G_law_parts (hr.mono (by decide)) rfl D_law_parts.g D_law_parts.F.kp D_law_parts.b .nil pass0 (pa_cons (pv 11) (pa_cons (pv 10) (pa_cons (pv 8) (pa_cons (pv 4) (pa_cons (pv 9) pa_nil))))))))))) (pss_one (ps_ret pe_bl)) pss_nil)
      (pss_cons (ps_for PassesOwn.never rfl (pi_tup (pe_tup (pa_cons (pv 10) (pa_cons (pv 11) pa_nil)))) (pg_name (i := 12) sc_law.nd rfl (Or.inl rfl)) (pss_one (ps_if (PW.pt (pw_or (pt_cmpR op_notN (pe_call G_parting_row (hr.mono (by decide)) rfl D_parting_row.g D_parting_row.F.kp D_parting_row.b .nil passL (pa_cons (pv 12) (pa_cons (pv 12) pa_nil))) pe_non (nomark _)) (pw_or1 (pt_cmpR op_notN (pe_call G_parting_row (hr.mono (by decide)) rfl D_parting_row.g D_parting_row.F.kp D_parting_row.b .nil passL (pa_cons (pv 12) (pa_cons (pe_sta (pe_glob (v := .ref CH) rfl T.k_Chooser rfl) ST_Chooser_free G_Chooser_free (hr.mono (by decide)) b_Chooser_free .nil passL (pa_cons (pv 2) pa_nil)) pa_nil))) pe_non (nomark _))))) (pss_one (ps_ret pe_bl)) pss_nil)))
      (pss_cons (ps_try_as (i := 13) rfl rfl sc_law.nd rfl rfl ⟨rfl, by decide, .inl T.k_BadNumber⟩ takes0 (fun W pn xe tk _ => (pss_one (ps_expr (pe_callS G_parting_row (hr.mono (by decide)) rfl D_parting_row.g D_parting_row.F.kp D_parting_row.b (fun σ => passAt tk σ) (pa_cons (pv 10) (pa_cons (pe_sta (pe_glob (v := .ref CH) rfl T.k_Chooser rfl) ST_Chooser_ranked G_Chooser_ranked (hr.mono (by decide)) b_Chooser_ranked .nil passL (pa_cons (pe_op op_add pe_int (pe_op op_mod (pe_callTy (T := "int") (r := rInt1) call_int1 (by rfl) T.b_int (by decide +kernel) (pa_cons (pv 2) pa_nil)) pe_int)) pa_nil)) pa_nil)))))) (fun a oe cls d pn hz hf => (pss_one (ps_ret (pe_callZ Z_law_number (roomZ_mark (Room.mono (j := _) hr (by decide))) rfl D_law_number.g D_law_number.F.kp D_law_number.b (fun σ pins H s e s' I h => pass0 pins σ H s e s' I h) (pa_cons (pe_xf XF_BadNumber NO_number hz hf (pv 13)) (pa_cons (pe_op op_add pe_int (pe_op op_mod (pe_callTy (T := "int") (r := rInt1) call_int1 (by rfl) T.b_int (by decide +kernel) (pa_cons (pv 2) pa_nil)) pe_int)) pa_nil)))))))
      (pss_one (ps_ret pe_bl))))))))))))))), ?_⟩
    try simp (maxSteps := 1000000) only [tSeq, tTest, tOp, tUn, tCB, tCons, tNil, tVar, tC, rI0, rI, rU, rEq, rNe, tRet, tRetN, tAsg, gName, gSub, tBM, tBM0, tNext, tB, tNot, tAnd, tOr, tIf, tCall, tDrop, tBreak, tCont, L2.start, tDGet, sDPut, tTup, tLst, tDNewK, tRevL, rCat, rAppend, rPop, rSetL, tAndV, tOrV, tNotV, tSl, tPart, tNoPart, tM1, gTup, gCons, gNil, cxK, cxnK, List.map_cons, List.map_nil, List.length_cons, List.length_nil, List.replicate, List.cons_append, List.nil_append, List.append_nil, List.set_cons_zero, List.set_cons_succ, List.getElem?_cons_zero, List.getElem?_cons_succ, Option.some.injEq, V.ref.injEq, V.int.injEq, V.str.injEq, V.bl.injEq, V.ty.injEq, exists_eq_left', exists_eq_left, exists_and_left, List.cons.injEq, and_true, true_and, sc_ii, sc_ss, sc_bb, sc_ni, sc_in, sc_is, sc_si, sc_nn, decide_true, decide_false, reduceCtorEq, Bool.false_eq_true, if_true, if_false, ite_true, ite_false, exists_const, eq_self, false_and, and_false, or_false, false_or, exists_false, Evl.rLenS, rSum, wipe, tYes, exists_eq, exists_eq', rIxL, rIxT, rIxS, exists_and_right, gt_iff_lt, not_true_eq_false, not_false_eq_true, Bool.not_true, Bool.not_false, decide_eq_true_eq, Nat.reduceSub, Nat.reduceAdd, List.append_assoc, tChain, tDIn, tDNotIn, sDDel, tAug, ipI, rInt1_int, rInt1_bl]
    have scr : Scr K H a ns := ⟨hS, hl⟩
    refine ⟨a, 0, ns, rfl, scr, by decide, by decide, fun cc0 H1 k1 => ⟨cc0, 10, rfl, by decide, fun dl ds H2 ndl hdl dlen db k2 => ?_⟩⟩
    have k12 := k1.trans k2
    have dd : ∀ m : Nat, m < 10 → ∃ d, ds[m]? = some d ∧ 0 ≤ d ∧ d < 1000 := fun m hm => ⟨ds[m]'(by omega), List.getElem?_eq_getElem _, db _ (List.getElem_mem _)⟩
    obtain ⟨d0, e0, d00, d01⟩ := dd 0 (by decide)
    obtain ⟨d1, e1, d10, d11⟩ := dd 1 (by decide)
    obtain ⟨d2, e2, d20, d21⟩ := dd 2 (by decide)
    obtain ⟨d3, e3, d30, d31⟩ := dd 3 (by decide)
    obtain ⟨d4, e4, d40, d41⟩ := dd 4 (by decide)
    obtain ⟨d5, e5, d50, d51⟩ := dd 5 (by decide)
    obtain ⟨d9, e9, d90, d91⟩ := dd 9 (by decide)
    have at0 : ∀ {m : Nat} {d : Int}, ds[m]? = some d → atI (ds.map V.int) ((m : Nat) : Int) = some (.int d) := fun {m d} e => atI_nat (by rw [List.getElem?_map, e]; rfl)
    have four : ∀ d : Int, d % 4 = 0 ∨ d % 4 = 1 ∨ d % 4 = 2 ∨ d % 4 = 3 := fun d => by
      have m0 := Int.emod_nonneg d (show (4 : Int) ≠ 0 by decide)
      have m1 := Int.emod_lt_of_pos d (show (0 : Int) < 4 by decide)
      omega
    have ixA : ∃ n : Nat, atI [V.int 2, V.int 3, V.int 3, V.int 1] (d0 % 4) = some (.int (n : Nat)) ∧ 1 ≤ n ∧ n ≤ 3 := by
      rcases four d0 with h | h | h | h <;> rw [h]
      · exact ⟨2, rfl, by decide, by decide⟩
      · exact ⟨3, rfl, by decide, by decide⟩
      · exact ⟨3, rfl, by decide, by decide⟩
      · exact ⟨1, rfl, by decide, by decide⟩
    have ixB : ∀ d : Int, ∃ b : Nat, atI [V.int 4, V.int 4, V.int 4, V.int 12] (d % 4) = some (.int (b : Nat)) ∧ 1 ≤ b ∧ b ≤ 12 := fun d => by
      rcases four d with h | h | h | h <;> rw [h]
      · exact ⟨4, rfl, by decide, by decide⟩
      · exact ⟨4, rfl, by decide, by decide⟩
      · exact ⟨4, rfl, by decide, by decide⟩
      · exact ⟨12, rfl, by decide, by decide⟩
    obtain ⟨n, en, n1, n3⟩ := ixA
    obtain ⟨b2, eb2, b21, b22⟩ := ixB d2
    refine ⟨small (by decide), fun p np => ?_⟩
    have kp := (Kp.new np : Kp [] H2 (upd H2 p (.tup [.int 2, .int 3, .int 3, .int 1])))
    have hp : (upd H2 p (.tup [.int 2, .int 3, .int 3, .int 1])) p = some (.tup [.int 2, .int 3, .int 3, .int 1]) := upd_same
    generalize upd H2 p (.tup [.int 2, .int 3, .int 3, .int 1]) = H3 at kp hp ⊢
    have k13 := k12.trans kp
    have hdl3 := kp _ _ not0 hdl
    refine ⟨dl, rfl, _, sq_l hdl3, _, at0 e0, ?_⟩
    rw [rInt1_int]
    refine ⟨_, rfl, by decide, _, sq_t hp, _, en, dl, rfl, _, sq_l hdl3, _, at0 e1, ?_⟩
    rw [rInt1_int]
    refine ⟨small (by decide), fun p2 np2 => ?_⟩
    have kp2 := (Kp.new np2 : Kp [] H3 (upd H3 p2 (.tup [.int 4, .int 4, .int 4, .int 12])))
    have hp2 : (upd H3 p2 (.tup [.int 4, .int 4, .int 4, .int 12])) p2 = some (.tup [.int 4, .int 4, .int 4, .int 12]) := upd_same
    generalize upd H3 p2 (.tup [.int 4, .int 4, .int 4, .int 12]) = H4 at kp2 hp2 ⊢
    have k14 := k13.trans kp2
    have hdl4 := kp2 _ _ not0 hdl3
    refine ⟨dl, rfl, _, sq_l hdl4, _, at0 e2, ?_⟩
    rw [rInt1_int]
    refine ⟨_, rfl, by decide, _, sq_t hp2, _, eb2, d1, rfl, _, rfl, by omega, ?_⟩
    obtain ⟨z, ez, z1, z12⟩ : ∃ z : Nat, 1 + d1 % ((b2 : Nat) : Int) = (z : Nat) ∧ 1 ≤ z ∧ z ≤ 12 := by
      have m0 := Int.emod_nonneg d1 (b := ((b2 : Nat) : Int)) (by omega)
      have m1 := Int.emod_lt_of_pos d1 (b := ((b2 : Nat) : Int)) (by omega)
      exact ⟨(1 + d1 % ((b2 : Nat) : Int)).toNat, by omega, by omega, by omega⟩
    rw [ez]
    refine lcRgE z (by omega) TSt (fun s => goodSt (n : Nat) (z : Nat) s = true ∧ SzSt s) (fun _ _ _ _ t h => h.tp t) (by simp) (fun R h => ⟨_, rfl, h⟩) (fun i H5 Q' hi k5 q' => ?_) fun sl us sts H5 nsl hsl hus stl hg k5 => ?_
    · try simp (maxSteps := 1000000) only [tSeq, tIfS, tTest, tOp, tUn, tCB, tCons, tNil, tVar, tC, rI0, rI, rU, rEq, rNe, tRet, tRetN, tAsg, gName, gSub, tBM, tBM0, tNext, tB, tNot, tAnd, tOr, tIf, tCall, tDrop, tBreak, tCont, L2.start, tDGet, sDPut, tTup, tLst, tDNewK, tRevL, rCat, rAppend, rPop, rSetL, tAndV, tOrV, tNotV, tSl, tPart, tNoPart, tM1, gTup, gCons, gNil, cxK, cxnK, List.map_cons, List.map_nil, List.length_cons, List.length_nil, List.replicate, List.cons_append, List.nil_append, List.append_nil, List.set_cons_zero, List.set_cons_succ, List.getElem?_cons_zero, List.getElem?_cons_succ, Option.some.injEq, V.ref.injEq, V.int.injEq, V.str.injEq, V.bl.injEq, V.ty.injEq, exists_eq_left', exists_eq_left, exists_and_left, List.cons.injEq, and_true, true_and, sc_ii, sc_ss, sc_bb, sc_ni, sc_in, sc_is, sc_si, sc_nn, decide_true, decide_false, reduceCtorEq, Bool.false_eq_true, if_true, if_false, ite_true, ite_false, exists_const, eq_self, false_and, and_false, or_false, false_or, exists_false, Evl.rLenS, rSum, wipe, tYes, exists_eq, exists_eq', rIxL, rIxT, rIxS, exists_and_right, gt_iff_lt, not_true_eq_false, not_false_eq_true, Bool.not_true, Bool.not_false, decide_eq_true_eq, Nat.reduceSub, Nat.reduceAdd, List.append_assoc, tChain, tDIn, tDNotIn, sDDel, tAug, ipI, rInt1_int, rInt1_bl]
      refine ⟨a, _, ns, rfl, scr.kp (k14.trans k5), by omega, by omega, fun c2 H6 k6 => ⟨c2, 9, rfl, by decide, fun l2 ds2 H7 nl2 hl2 dlen2 db2 k7 => ?_⟩⟩
      exact ⟨l2, n, z, ds2, rfl, hl2, dlen2, db2, n1, n3, z1, z12, fun v s H8 hs gs szs k8 => q' v s H8 hs ⟨gs, szs⟩ ((k6.trans k7).trans k8)⟩
    have hG : GoodC (n : Nat) sts := ⟨by omega, by omega, by omega, by omega, fun s hs => by rw [stl]; exact (hg s hs).1⟩
    refine ifs_both (LwA a dl n z H4) (fun Da hDa => ?_) fun σ' H6 h => ?_
    · try simp (maxSteps := 1000000) only [tSeq, tIfS, tTest, tOp, tUn, tCB, tCons, tNil, tVar, tC, rI0, rI, rU, rEq, rNe, tRet, tRetN, tAsg, gName, gSub, tBM, tBM0, tNext, tB, tNot, tAnd, tOr, tIf, tCall, tDrop, tBreak, tCont, L2.start, tDGet, sDPut, tTup, tLst, tDNewK, tRevL, rCat, rAppend, rPop, rSetL, tAndV, tOrV, tNotV, tSl, tPart, tNoPart, tM1, gTup, gCons, gNil, cxK, cxnK, List.map_cons, List.map_nil, List.length_cons, List.length_nil, List.replicate, List.cons_append, List.nil_append, List.append_nil, List.set_cons_zero, List.set_cons_succ, List.getElem?_cons_zero, List.getElem?_cons_succ, Option.some.injEq, V.ref.injEq, V.int.injEq, V.str.injEq, V.bl.injEq, V.ty.injEq, exists_eq_left', exists_eq_left, exists_and_left, List.cons.injEq, and_true, true_and, sc_ii, sc_ss, sc_bb, sc_ni, sc_in, sc_is, sc_si, sc_nn, decide_true, decide_false, reduceCtorEq, Bool.false_eq_true, if_true, if_false, ite_true, ite_false, exists_const, eq_self, false_and, and_false, or_false, false_or, exists_false, Evl.rLenS, rSum, wipe, tYes, exists_eq, exists_eq', rIxL, rIxT, rIxS, exists_and_right, gt_iff_lt, not_true_eq_false, not_false_eq_true, Bool.not_true, Bool.not_false, decide_eq_true_eq, Nat.reduceSub, Nat.reduceAdd, List.append_assoc, tChain, tDIn, tDNotIn, sDDel, tAug, ipI, rInt1_int, rInt1_bl]
      refine ⟨_, sq_l (k5 _ _ not0 hdl4), _, at0 e9, ?_⟩
      rw [rInt1_int]
      refine ⟨_, rfl, by decide, ?_⟩
      by_cases h9 : d9 % 4 = 0
      · rw [if_pos h9]
        refine ⟨sl, us, n, sts, rfl, hsl, hus, n1, n3, by omega, by omega, fun s hs => ?_, fun l us' H6 nl hl' hus' k6 => ?_⟩
        · have := (good_parts (hg s hs).1 (by omega)).1
          omega
        · exact hDa _ _ ⟨l, us', ladC sts n, rfl, hl', hus', lad_good hG, by unfold ladC; simp [stl], k5.trans k6⟩
      · rw [if_neg h9]
        exact hDa _ _ ⟨sl, us, sts, rfl, hsl, hus, hG, stl, k5⟩
    · clear hG hus hsl hg stl k5 nsl
      obtain ⟨al, ua, sta, rfl, hal, hua, gA, zA, k6⟩ := h
      try simp (maxSteps := 1000000) only [tSeq, tTest, tOp, tUn, tCB, tCons, tNil, tVar, tC, rI0, rI, rU, rEq, rNe, tRet, tRetN, tAsg, gName, gSub, tBM, tBM0, tNext, tB, tNot, tAnd, tOr, tIf, tCall, tDrop, tBreak, tCont, L2.start, tDGet, sDPut, tTup, tLst, tDNewK, tRevL, rCat, rAppend, rPop, rSetL, tAndV, tOrV, tNotV, tSl, tPart, tNoPart, tM1, gTup, gCons, gNil, cxK, cxnK, List.map_cons, List.map_nil, List.length_cons, List.length_nil, List.replicate, List.cons_append, List.nil_append, List.append_nil, List.set_cons_zero, List.set_cons_succ, List.getElem?_cons_zero, List.getElem?_cons_succ, Option.some.injEq, V.ref.injEq, V.int.injEq, V.str.injEq, V.bl.injEq, V.ty.injEq, exists_eq_left', exists_eq_left, exists_and_left, List.cons.injEq, and_true, true_and, sc_ii, sc_ss, sc_bb, sc_ni, sc_in, sc_is, sc_si, sc_nn, decide_true, decide_false, reduceCtorEq, Bool.false_eq_true, if_true, if_false, ite_true, ite_false, exists_const, eq_self, false_and, and_false, or_false, false_or, exists_false, Evl.rLenS, rSum, wipe, tYes, exists_eq, exists_eq', rIxL, rIxT, rIxS, exists_and_right, gt_iff_lt, not_true_eq_false, not_false_eq_true, Bool.not_true, Bool.not_false, decide_eq_true_eq, Nat.reduceSub, Nat.reduceAdd, List.append_assoc, tChain, tDIn, tDNotIn, sDDel, tAug, ipI, rInt1_int, rInt1_bl]
      refine ⟨_, sq_l (k6 _ _ not0 hdl4), _, at0 e3, ?_⟩
      rw [rInt1_int]
      refine ⟨_, rfl, by decide, ?_⟩
      refine ifs_both (LwB a dl n z H4) (fun Db hDb => ?_) fun σ' H7 h => ?_
      · refine ifS_open ?_
        try simp (maxSteps := 1000000) only [tSeq, tIfS, tTest, tOp, tUn, tCB, tCons, tNil, tVar, tC, rI0, rI, rU, rEq, rNe, tRet, tRetN, tAsg, gName, gSub, tBM, tBM0, tNext, tB, tNot, tAnd, tOr, tIf, tCall, tDrop, tBreak, tCont, L2.start, tDGet, sDPut, tTup, tLst, tDNewK, tRevL, rCat, rAppend, rPop, rSetL, tAndV, tOrV, tNotV, tSl, tPart, tNoPart, tM1, gTup, gCons, gNil, cxK, cxnK, List.map_cons, List.map_nil, List.length_cons, List.length_nil, List.replicate, List.cons_append, List.nil_append, List.append_nil, List.set_cons_zero, List.set_cons_succ, List.getElem?_cons_zero, List.getElem?_cons_succ, Option.some.injEq, V.ref.injEq, V.int.injEq, V.str.injEq, V.bl.injEq, V.ty.injEq, exists_eq_left', exists_eq_left, exists_and_left, List.cons.injEq, and_true, true_and, sc_ii, sc_ss, sc_bb, sc_ni, sc_in, sc_is, sc_si, sc_nn, decide_true, decide_false, reduceCtorEq, Bool.false_eq_true, if_true, if_false, ite_true, ite_false, exists_const, eq_self, false_and, and_false, or_false, false_or, exists_false, Evl.rLenS, rSum, wipe, tYes, exists_eq, exists_eq', rIxL, rIxT, rIxS, exists_and_right, gt_iff_lt, not_true_eq_false, not_false_eq_true, Bool.not_true, Bool.not_false, decide_eq_true_eq, Nat.reduceSub, Nat.reduceAdd, List.append_assoc, tChain, tDIn, tDNotIn, sDDel, tAug, ipI, rInt1_int, rInt1_bl]
        by_cases h3 : d3 % 4 = 0
        · rw [if_pos h3]
          refine ⟨_, sq_l (k6 _ _ not0 hdl4), _, at0 e4, ?_⟩
          rw [rInt1_int]
          refine ⟨small (by decide), fun p3 np3 => ?_⟩
          have kp3 := (Kp.new np3 : Kp [] H6 (upd H6 p3 (.tup [.int 4, .int 4, .int 4, .int 12])))
          have hp3 : (upd H6 p3 (.tup [.int 4, .int 4, .int 4, .int 12])) p3 = some (.tup [.int 4, .int 4, .int 4, .int 12]) := upd_same
          generalize upd H6 p3 (.tup [.int 4, .int 4, .int 4, .int 12]) = H7 at kp3 hp3 ⊢
          obtain ⟨b5, eb5, b51, b52⟩ := ixB d5
          refine ⟨_, sq_l ((k6.trans kp3) _ _ not0 hdl4), _, at0 e5, ?_⟩
          rw [rInt1_int]
          refine ⟨_, rfl, by decide, _, sq_t hp3, _, eb5, d4, rfl, _, rfl, by omega, ?_⟩
          obtain ⟨y, ey, y1, y12⟩ : ∃ y : Nat, 1 + d4 % ((b5 : Nat) : Int) = (y : Nat) ∧ 1 ≤ y ∧ y ≤ 12 := by
            have m0 := Int.emod_nonneg d4 (b := ((b5 : Nat) : Int)) (by omega)
            have m1 := Int.emod_lt_of_pos d4 (b := ((b5 : Nat) : Int)) (by omega)
            exact ⟨(1 + d4 % ((b5 : Nat) : Int)).toNat, by omega, by omega, by omega⟩
          rw [ey]
          have k67 := k6.trans kp3
          refine lcRgE y (by omega) TSt (fun s => goodSt (n : Nat) (y : Nat) s = true ∧ SzSt s) (fun _ _ _ _ t h => h.tp t) (by simp) (fun R h => ⟨_, rfl, h⟩) (fun i H8 Q' hi k8 q' => ?_) fun bl ub stb H8 nbl hbl hub stlb hgb k8 => ?_
          · try simp (maxSteps := 1000000) only [tSeq, tIfS, tTest, tOp, tUn, tCB, tCons, tNil, tVar, tC, rI0, rI, rU, rEq, rNe, tRet, tRetN, tAsg, gName, gSub, tBM, tBM0, tNext, tB, tNot, tAnd, tOr, tIf, tCall, tDrop, tBreak, tCont, L2.start, tDGet, sDPut, tTup, tLst, tDNewK, tRevL, rCat, rAppend, rPop, rSetL, tAndV, tOrV, tNotV, tSl, tPart, tNoPart, tM1, gTup, gCons, gNil, cxK, cxnK, List.map_cons, List.map_nil, List.length_cons, List.length_nil, List.replicate, List.cons_append, List.nil_append, List.append_nil, List.set_cons_zero, List.set_cons_succ, List.getElem?_cons_zero, List.getElem?_cons_succ, Option.some.injEq, V.ref.injEq, V.int.injEq, V.str.injEq, V.bl.injEq, V.ty.injEq, exists_eq_left', exists_eq_left, exists_and_left, List.cons.injEq, and_true, true_and, sc_ii, sc_ss, sc_bb, sc_ni, sc_in, sc_is, sc_si, sc_nn, decide_true, decide_false, reduceCtorEq, Bool.false_eq_true, if_true, if_false, ite_true, ite_false, exists_const, eq_self, false_and, and_false, or_false, false_or, exists_false, Evl.rLenS, rSum, wipe, tYes, exists_eq, exists_eq', rIxL, rIxT, rIxS, exists_and_right, gt_iff_lt, not_true_eq_false, not_false_eq_true, Bool.not_true, Bool.not_false, decide_eq_true_eq, Nat.reduceSub, Nat.reduceAdd, List.append_assoc, tChain, tDIn, tDNotIn, sDDel, tAug, ipI, rInt1_int, rInt1_bl]
            refine ⟨a, _, ns, rfl, scr.kp ((k14.trans k67).trans k8), by omega, by omega, fun c2 H9 k9 => ⟨c2, 9, rfl, by decide, fun l2 ds2 H10 nl2 hl2 dlen2 db2 k10 => ?_⟩⟩
            exact ⟨l2, n, y, ds2, rfl, hl2, dlen2, db2, n1, n3, y1, y12, fun v s H11 hs gs szs k11 => q' v s H11 hs ⟨gs, szs⟩ ((k9.trans k10).trans k11)⟩
          · have kp8 := kp3.trans k8
            exact hDb _ _ ⟨al, bl, ua, ub, sta, stb, _, _, rfl, kp8 _ _ not0 hal, hua.mono fun _ _ z => z.tp kp8.tps, gA, hbl, hub, ⟨by omega, by omega, by omega, by omega, fun s hs => by rw [stlb]; exact (hgb s hs).1⟩, k67.trans k8⟩
        · rw [if_neg h3]
          refine ⟨a, al, dl, 1 + z, n, d3 % 4, ns, ds, ua, sta, by rw [show (((1 + z : Nat)) : Int) = 1 + ((z : Nat) : Int) by omega], scr.kp (k14.trans k6), by omega, hal, hua, gA, k6 _ _ not0 hdl4, dlen, db, fun l us' sts' H7 nl hl7 hus7 g7 k7 => ?_⟩
          exact hDb _ _ ⟨al, l, ua, us', sta, sts', _, _, rfl, k7 _ _ not0 hal, hua.mono fun _ _ z => z.tp k7.tps, gA, hl7, hus7, g7, k6.trans k7⟩
      · obtain ⟨al, bl, ua, ub, sta, stb, c6, c7, rfl, hal, hua, gA, hbl, hub, gB, k7⟩ := h
        try simp (maxSteps := 1000000) only [tSeq, tIfS, tTest, tOp, tUn, tCB, tCons, tNil, tVar, tC, rI0, rI, rU, rEq, rNe, tRet, tRetN, tAsg, gName, gSub, tBM, tBM0, tNext, tB, tNot, tAnd, tOr, tIf, tCall, tDrop, tBreak, tCont, L2.start, tDGet, sDPut, tTup, tLst, tDNewK, tRevL, rCat, rAppend, rPop, rSetL, tAndV, tOrV, tNotV, tSl, tPart, tNoPart, tM1, gTup, gCons, gNil, cxK, cxnK, List.map_cons, List.map_nil, List.length_cons, List.length_nil, List.replicate, List.cons_append, List.nil_append, List.append_nil, List.set_cons_zero, List.set_cons_succ, List.getElem?_cons_zero, List.getElem?_cons_succ, Option.some.injEq, V.ref.injEq, V.int.injEq, V.str.injEq, V.bl.injEq, V.ty.injEq, exists_eq_left', exists_eq_left, exists_and_left, List.cons.injEq, and_true, true_and, sc_ii, sc_ss, sc_bb, sc_ni, sc_in, sc_is, sc_si, sc_nn, decide_true, decide_false, reduceCtorEq, Bool.false_eq_true, if_true, if_false, ite_true, ite_false, exists_const, eq_self, false_and, and_false, or_false, false_or, exists_false, Evl.rLenS, rSum, wipe, tYes, exists_eq, exists_eq', rIxL, rIxT, rIxS, exists_and_right, gt_iff_lt, not_true_eq_false, not_false_eq_true, Bool.not_true, Bool.not_false, decide_eq_true_eq, Nat.reduceSub, Nat.reduceAdd, List.append_assoc, tChain, tDIn, tDNotIn, sDDel, tAug, ipI, rInt1_int, rInt1_bl]
        refine ⟨n, rfl, n1, n3, fun lp up H8 nlp hlp hup k8 => ?_⟩
        try simp (maxSteps := 1000000) only [tSeq, tIfS, tTest, tOp, tUn, tCB, tCons, tNil, tVar, tC, rI0, rI, rU, rEq, rNe, tRet, tRetN, tAsg, gName, gSub, tBM, tBM0, tNext, tB, tNot, tAnd, tOr, tIf, tCall, tDrop, tBreak, tCont, L2.start, tDGet, sDPut, tTup, tLst, tDNewK, tRevL, rCat, rAppend, rPop, rSetL, tAndV, tOrV, tNotV, tSl, tPart, tNoPart, tM1, gTup, gCons, gNil, cxK, cxnK, List.map_cons, List.map_nil, List.length_cons, List.length_nil, List.replicate, List.cons_append, List.nil_append, List.append_nil, List.set_cons_zero, List.set_cons_succ, List.getElem?_cons_zero, List.getElem?_cons_succ, Option.some.injEq, V.ref.injEq, V.int.injEq, V.str.injEq, V.bl.injEq, V.ty.injEq, exists_eq_left', exists_eq_left, exists_and_left, List.cons.injEq, and_true, true_and, sc_ii, sc_ss, sc_bb, sc_ni, sc_in, sc_is, sc_si, sc_nn, decide_true, decide_false, reduceCtorEq, Bool.false_eq_true, if_true, if_false, ite_true, ite_false, exists_const, eq_self, false_and, and_false, or_false, false_or, exists_false, Evl.rLenS, rSum, wipe, tYes, exists_eq, exists_eq', rIxL, rIxT, rIxS, exists_and_right, gt_iff_lt, not_true_eq_false, not_false_eq_true, Bool.not_true, Bool.not_false, decide_eq_true_eq, Nat.reduceSub, Nat.reduceAdd, List.append_assoc, tChain, tDIn, tDNotIn, sDDel, tAug, ipI, rInt1_int, rInt1_bl, tMake]
        have szA : ∀ s ∈ sta, SzSt s := fun s hs => (good_sz (gA.2.2.2.2 s hs) n3).1
        have szB : ∀ s ∈ stb, SzSt s := fun s hs => (good_sz (gB.2.2.2.2 s hs) n3).1
        refine ⟨ua, .inl (sq_l (k8 _ _ not0 hal)), fun q1 nq1 x dx nx ndx ne => ?_⟩
        have kq := (Kp.new nq1 : Kp [] H8 (upd H8 q1 (.lst ua)))
        refine ch_madeH nx ndx ne upd_same (hua.mono fun _ _ h => h.tp (k8.trans kq).tps) gA szA fun H9 hC9 k9 => ?_
        have k89 := (k8.trans kq).trans k9
        refine ⟨ub, .inl (sq_l (k89 _ _ not0 hbl)), fun q2 nq2 y dy ny ndy ney => ?_⟩
        have kq2 := (Kp.new nq2 : Kp [] H9 (upd H9 q2 (.lst ub)))
        refine ch_madeH ny ndy ney upd_same (hub.mono fun _ _ h => h.tp (k89.trans kq2).tps) gB szB fun H10 hC10 k10 => ?_
        have kA := (k89.trans kq2).trans k10
        have hX := hC9.kp (kq2.trans k10)
        have kB := ((kq.trans k9).trans kq2).trans k10
        have hlp10 := kB _ _ not0 hlp
        have hup10 := hup.mono fun _ _ z => z.tp kB.tps
        have hal10 := kA _ _ not0 hal
        have hbl10 := kA _ _ not0 hbl
        have hua10 := hua.mono fun _ _ z => z.tp kA.tps
        have hub10 := hub.mono fun _ _ z => z.tp kA.tps
        refine ⟨x, y, al, bl, lp, n, sta, stb, ua, ub, up, rfl, hX, hC10, hal10, hua10, hbl10, hub10, hlp10, hup10, gA, gB, fun H11 k11 => ⟨_, rfl, ?_⟩⟩
        rw [if_neg (by simp)]
        refine ⟨y, x, bl, al, lp, n, stb, sta, ub, ua, up, rfl, hC10.kp k11, hX.kp k11, k11 _ _ not0 hbl10, hub10.mono fun _ _ z => z.tp k11.tps, k11 _ _ not0 hal10, hua10.mono fun _ _ z => z.tp k11.tps, k11 _ _ not0 hlp10, hup10.mono fun _ _ z => z.tp k11.tps, gB, gA, fun H12 k12 => ⟨_, rfl, ?_⟩⟩
        rw [if_neg (by simp)]
        have kX := k11.trans k12
        have hX12 := hX.kp kX
        have hY12 := hC10.kp kX
        refine forT_src ?_
        try simp (maxSteps := 1000000) only [tSeq, tIfS, tTest, tOp, tUn, tCB, tCons, tNil, tVar, tC, rI0, rI, rU, rEq, rNe, tRet, tRetN, tAsg, gName, gSub, tBM, tBM0, tNext, tB, tNot, tAnd, tOr, tIf, tCall, tDrop, tBreak, tCont, L2.start, tDGet, sDPut, tTup, tLst, tDNewK, tRevL, rCat, rAppend, rPop, rSetL, tAndV, tOrV, tNotV, tSl, tPart, tNoPart, tM1, gTup, gCons, gNil, cxK, cxnK, List.map_cons, List.map_nil, List.length_cons, List.length_nil, List.replicate, List.cons_append, List.nil_append, List.append_nil, List.set_cons_zero, List.set_cons_succ, List.getElem?_cons_zero, List.getElem?_cons_succ, Option.some.injEq, V.ref.injEq, V.int.injEq, V.str.injEq, V.bl.injEq, V.ty.injEq, exists_eq_left', exists_eq_left, exists_and_left, List.cons.injEq, and_true, true_and, sc_ii, sc_ss, sc_bb, sc_ni, sc_in, sc_is, sc_si, sc_nn, decide_true, decide_false, reduceCtorEq, Bool.false_eq_true, if_true, if_false, ite_true, ite_false, exists_const, eq_self, false_and, and_false, or_false, false_or, exists_false, Evl.rLenS, rSum, wipe, tYes, exists_eq, exists_eq', rIxL, rIxT, rIxS, exists_and_right, gt_iff_lt, not_true_eq_false, not_false_eq_true, Bool.not_true, Bool.not_false, decide_eq_true_eq, Nat.reduceSub, Nat.reduceAdd, List.append_assoc, tChain, tDIn, tDNotIn, sDDel, tAug, ipI, rInt1_int, rInt1_bl]
        refine ⟨small (by decide), fun t nt => ?_⟩
        have kt := (Kp.new nt : Kp [] H12 (upd H12 t (.tup [.ref x, .ref y])))
        have ht : (upd H12 t (.tup [.ref x, .ref y])) t = some (.tup [.ref x, .ref y]) := upd_same
        generalize upd H12 t (.tup [.ref x, .ref y]) = H13 at kt ht ⊢
        have hX13 := hX12.kp kt
        have hY13 := hY12.kp kt
        refine forTC (fun j σ H' => ∃ (c12 : Option V), σ = [some (.ref a), some (.ref dl), some (.int (n : Nat)), some (.int (z : Nat)), some (.ref al), none, c6, c7, some (.ref bl), some (.ref lp), some (.ref x), some (.ref y), c12, none] ∧ Kp [] H13 H') (sq_t ht) ⟨_, rfl, Kp.refl _ _⟩ (fun j σ H' _ h => by obtain ⟨_, _, k⟩ := h; exact sq_t (k _ _ not0 ht)) ?_ ?_
        · rintro j v σ HA hv ⟨c12, rfl, kA⟩
          have one : ∃ (o : Addr) (sts : List Cst), v = .ref o ∧ ChAt CH HA o (n : Nat) sts ∧ GoodC (n : Nat) sts := by
            match j, hv with
            | 0, hv => cases hv; exact ⟨x, sta, rfl, hX13.kp kA, gA⟩
            | 1, hv => cases hv; exact ⟨y, stb, rfl, hY13.kp kA, gB⟩
            | j + 2, hv => cases hv
          obtain ⟨o, sts, rfl, hO, gO⟩ := one
          try simp (maxSteps := 1000000) only [tSeq, tIfS, tTest, tOp, tUn, tCB, tCons, tNil, tVar, tC, rI0, rI, rU, rEq, rNe, tRet, tRetN, tAsg, gName, gSub, tBM, tBM0, tNext, tB, tNot, tAnd, tOr, tIf, tCall, tDrop, tBreak, tCont, L2.start, tDGet, sDPut, tTup, tLst, tDNewK, tRevL, rCat, rAppend, rPop, rSetL, tAndV, tOrV, tNotV, tSl, tPart, tNoPart, tM1, gTup, gCons, gNil, cxK, cxnK, List.map_cons, List.map_nil, List.length_cons, List.length_nil, List.replicate, List.cons_append, List.nil_append, List.append_nil, List.set_cons_zero, List.set_cons_succ, List.getElem?_cons_zero, List.getElem?_cons_succ, Option.some.injEq, V.ref.injEq, V.int.injEq, V.str.injEq, V.bl.injEq, V.ty.injEq, exists_eq_left', exists_eq_left, exists_and_left, List.cons.injEq, and_true, true_and, sc_ii, sc_ss, sc_bb, sc_ni, sc_in, sc_is, sc_si, sc_nn, decide_true, decide_false, reduceCtorEq, Bool.false_eq_true, if_true, if_false, ite_true, ite_false, exists_const, eq_self, false_and, and_false, or_false, false_or, exists_false, Evl.rLenS, rSum, wipe, tYes, exists_eq, exists_eq', rIxL, rIxT, rIxS, exists_and_right, gt_iff_lt, not_true_eq_false, not_false_eq_true, Bool.not_true, Bool.not_false, decide_eq_true_eq, Nat.reduceSub, Nat.reduceAdd, List.append_assoc, tChain, tDIn, tDNotIn, sDDel, tAug, ipI, rInt1_int, rInt1_bl, tSta]
          have ug := usual_good (c := (n : Nat)) (which := 0) (by omega) (by omega)
          refine ⟨o, o, n, n, sts, sts, rfl, hO, hO, gO, gO, fun _ => ⟨fun r l us HB hL _ _ _ _ _ => absurd hL.1 no_self, fun _ HB kB => ?_⟩, fun h => absurd rfl h⟩
          dsimp only
          rw [if_neg (by simp)]
          refine ⟨(n : Nat), rfl, fun _ _ fo HC hF kC => ?_, fun h => absurd ⟨by omega, by omega⟩ h⟩
          refine ⟨o, fo, n, n, sts, usualC 0 (n : Nat), rfl, hO.kp (kB.trans kC), hF, gO, ug.1, fun _ => ⟨fun r l us HD hL _ _ _ _ _ => absurd hL.1 (no_free n1 n3), fun _ HD kD => ?_⟩, fun h => absurd rfl h⟩
          dsimp only
          rw [if_neg (by simp)]
          exact ((kA.trans kB).trans kC).trans kD
        · rintro σ HA ⟨c12, rfl, kA⟩
          try simp (maxSteps := 1000000) only [tSeq, tIfS, tTest, tOp, tUn, tCB, tCons, tNil, tVar, tC, rI0, rI, rU, rEq, rNe, tRet, tRetN, tAsg, gName, gSub, tBM, tBM0, tNext, tB, tNot, tAnd, tOr, tIf, tCall, tDrop, tBreak, tCont, L2.start, tDGet, sDPut, tTup, tLst, tDNewK, tRevL, rCat, rAppend, rPop, rSetL, tAndV, tOrV, tNotV, tSl, tPart, tNoPart, tM1, gTup, gCons, gNil, cxK, cxnK, List.map_cons, List.map_nil, List.length_cons, List.length_nil, List.replicate, List.cons_append, List.nil_append, List.append_nil, List.set_cons_zero, List.set_cons_succ, List.getElem?_cons_zero, List.getElem?_cons_succ, Option.some.injEq, V.ref.injEq, V.int.injEq, V.str.injEq, V.bl.injEq, V.ty.injEq, exists_eq_left', exists_eq_left, exists_and_left, List.cons.injEq, and_true, true_and, sc_ii, sc_ss, sc_bb, sc_ni, sc_in, sc_is, sc_si, sc_nn, decide_true, decide_false, reduceCtorEq, Bool.false_eq_true, if_true, if_false, ite_true, ite_false, exists_const, eq_self, false_and, and_false, or_false, false_or, exists_false, Evl.rLenS, rSum, wipe, tYes, exists_eq, exists_eq', rIxL, rIxT, rIxS, exists_and_right, gt_iff_lt, not_true_eq_false, not_false_eq_true, Bool.not_true, Bool.not_false, decide_eq_true_eq, Nat.reduceSub, Nat.reduceAdd, List.append_assoc, tChain, tDIn, tDNotIn, sDDel, tAug, ipI, rInt1_int, rInt1_bl, tSta, tCallS]
          obtain ⟨m, em, m1, m3, mn⟩ : ∃ m : Nat, 1 + ((n : Nat) : Int) % 3 = (m : Nat) ∧ 1 ≤ m ∧ m ≤ 3 ∧ n ≠ m := ⟨1 + n % 3, by omega, by omega, by omega, by omega⟩
          rw [em]
          have ug := usual_good (c := (m : Nat)) (which := 1) (by omega) (by omega)
          refine ⟨by decide, (m : Nat), rfl, fun _ _ rk HB hR kB => ?_, fun h => absurd ⟨by omega, by omega⟩ h⟩
          refine ⟨x, rk, n, m, sta, usualC 1 (m : Nat), rfl, hX13.kp (kA.trans kB), hR, gA, ug.1, fun h => absurd h mn, fun _ e HC ne he kC => ?_⟩
          refine ⟨true, T.eB, fun _ y2 ny2 => ?_, fun q => nomatch q⟩
          try simp (maxSteps := 1000000) only [tSeq, tIfS, tTest, tOp, tUn, tCB, tCons, tNil, tVar, tC, rI0, rI, rU, rEq, rNe, tRet, tRetN, tAsg, gName, gSub, tBM, tBM0, tNext, tB, tNot, tAnd, tOr, tIf, tCall, tDrop, tBreak, tCont, L2.start, tDGet, sDPut, tTup, tLst, tDNewK, tRevL, rCat, rAppend, rPop, rSetL, tAndV, tOrV, tNotV, tSl, tPart, tNoPart, tM1, gTup, gCons, gNil, cxK, cxnK, List.map_cons, List.map_nil, List.length_cons, List.length_nil, List.replicate, List.cons_append, List.nil_append, List.append_nil, List.set_cons_zero, List.set_cons_succ, List.getElem?_cons_zero, List.getElem?_cons_succ, Option.some.injEq, V.ref.injEq, V.int.injEq, V.str.injEq, V.bl.injEq, V.ty.injEq, exists_eq_left', exists_eq_left, exists_and_left, List.cons.injEq, and_true, true_and, sc_ii, sc_ss, sc_bb, sc_ni, sc_in, sc_is, sc_si, sc_nn, decide_true, decide_false, reduceCtorEq, Bool.false_eq_true, if_true, if_false, ite_true, ite_false, exists_const, eq_self, false_and, and_false, or_false, false_or, exists_false, Evl.rLenS, rSum, wipe, tYes, exists_eq, exists_eq', rIxL, rIxT, rIxS, exists_and_right, gt_iff_lt, not_true_eq_false, not_false_eq_true, Bool.not_true, Bool.not_false, decide_eq_true_eq, Nat.reduceSub, Nat.reduceAdd, List.append_assoc, tChain, tDIn, tDNotIn, sDDel, tAug, ipI, rInt1_int, rInt1_bl, tXf, Ends.off, tCallS]
          refine ⟨_, he, _, rfl, by decide, (m : Nat), (m : Nat), by rw [em], ?_⟩
          rw [decide_eq_true rfl]
          exact q _
end
end My

set_option Elab.async false
set_option linter.all false
set_option maxRecDepth 100000
set_option maxHeartbeats 8000000
namespace My
open PySem L2 NdefX StX
theorem exm_sub {K : PySem.W.Frag} {S D : Addr} {b : Bool} (h1 : PySem.W.subIn K (.ref D) (.type "BaseException") = some true) (h2 : PySem.W.isClsIn K D = true) (h3 : PySem.W.typeIn K (.ref D) = some (.type "type"))
    (h4 : PySem.W.subIn K (.ref S) (.ref D) = some b) : PySem.W.exmOne K (.ref S) (.ref D) = some b := by
  have i2 : (PySem.W.clsIn K D).isSome = true := h2
  unfold PySem.W.exmOne
  simp [PySem.W.kitCls, h1, i2, h3, h4]
theorem kit_self {K : PySem.W.Frag} {S : Addr} : PySem.W.kitOne K (.ref S) (.ref S) = some true := by
  unfold PySem.W.kitOne
  rw [if_pos (beq_self_eq_true _)]
theorem kit_sub {K : PySem.W.Frag} {S D : Addr} {b : Bool} (h1 : ((Value.ref S) == (Value.ref D)) = false) (h2 : PySem.W.isClsIn K D = true) (h3 : PySem.W.typeIn K (.ref D) = some (.type "type")) (h4 : PySem.W.subIn K (.ref S) (.ref D) = some b) : PySem.W.kitOne K (.ref S) (.ref D) = some b := by
  have i2 : (PySem.W.clsIn K D).isSome = true := h2
  unfold PySem.W.kitOne
  rw [h1]
  simp [PySem.W.kitCls, i2, h3, h4]
theorem kit_ty {K : PySem.W.Frag} {S : Addr} {T : String} {b : Bool} (h1 : PySem.W.kitMeta T = true) (h4 : PySem.W.subIn K (.ref S) (.type T) = some b) : PySem.W.kitOne K (.ref S) (.type T) = some b := by
  unfold PySem.W.kitOne
  rw [if_neg (by rw [show ((Value.ref S) == (Value.type T)) = false from beq_eq_false_iff_ne.mpr (fun z => nomatch z)]; exact Bool.false_ne_true)]
  simp [PySem.W.kitCls, h1, h4]
theorem smallI_log {v : V} (h : SmallI v) : ∃ i : Int, v = .int i ∧ i.natAbs.log2 < 1920 := by
  obtain ⟨i, e, h0, h1⟩ := h
  refine ⟨i, e, ?_⟩
  by_cases e0 : i.natAbs = 0
  · rw [e0]; decide
  · rw [Nat.log2_lt e0]
    have h0 : (1000 : Nat) < 2 ^ 1920 := by decide +kernel
    omega
theorem all_mk {l : PySem.W.OpenLaw} {w : World} {K : PySem.W.Frag} {h : Heap} {mg : Str → Option Value} {fa : Addr} (X : K.In h) (G : h.Ns mainGlobals mg) (hfa : mg "law" = some (.ref fa))
    {f0 : Addr}
    {od0 an0 : Option Addr}
    {sl0 : Array (Option Value)}
    {oc0 kV0 dc0 pm0 cd0 ct0 : Value}
    {f1 : Addr}
    {od1 an1 : Option Addr}
    {sl1 : Array (Option Value)}
    {oc1 kV1 dc1 pm1 cd1 ct1 : Value}
    {f2 : Addr}
    {od2 an2 : Option Addr}
    {sl2 : Array (Option Value)}
    {oc2 kV2 dc2 pm2 cd2 ct2 : Value}
    {f3 : Addr}
    {od3 an3 : Option Addr}
    {sl3 : Array (Option Value)}
    {oc3 kV3 dc3 pm3 cd3 ct3 : Value}
    {f4 : Addr}
    {od4 an4 : Option Addr}
    {sl4 : Array (Option Value)}
    {oc4 kV4 dc4 pm4 cd4 ct4 : Value}
    {f5 : Addr}
    {od5 an5 : Option Addr}
    {sl5 : Array (Option Value)}
    {oc5 kV5 dc5 pm5 cd5 ct5 : Value}
    {f6 : Addr}
    {od6 an6 : Option Addr}
    {sl6 : Array (Option Value)}
    {oc6 kV6 dc6 pm6 cd6 ct6 : Value}
    {f7 : Addr}
    {od7 an7 : Option Addr}
    {sl7 : Array (Option Value)}
    {oc7 kV7 dc7 pm7 cd7 ct7 : Value}
    {f8 : Addr}
    {od8 an8 : Option Addr}
    {sl8 : Array (Option Value)}
    {oc8 kV8 dc8 pm8 cd8 ct8 : Value}
    {f9 : Addr}
    {od9 an9 : Option Addr}
    {sl9 : Array (Option Value)}
    {oc9 kV9 dc9 pm9 cd9 ct9 : Value}
    {f10 : Addr}
    {od10 an10 : Option Addr}
    {sl10 : Array (Option Value)}
    {oc10 kV10 dc10 pm10 cd10 ct10 : Value}
    {f11 : Addr}
    {od11 an11 : Option Addr}
    {sl11 : Array (Option Value)}
    {oc11 kV11 dc11 pm11 cd11 ct11 : Value}
    {f12 : Addr}
    {od12 an12 : Option Addr}
    {sl12 : Array (Option Value)}
    {oc12 kV12 dc12 pm12 cd12 ct12 : Value}
    {f13 : Addr}
    {od13 an13 : Option Addr}
    {sl13 : Array (Option Value)}
    {oc13 kV13 dc13 pm13 cd13 ct13 : Value}
    {f14 : Addr}
    {od14 an14 : Option Addr}
    {sl14 : Array (Option Value)}
    {oc14 kV14 dc14 pm14 cd14 ct14 : Value}
    {f15 : Addr}
    {od15 an15 : Option Addr}
    {sl15 : Array (Option Value)}
    {oc15 kV15 dc15 pm15 cd15 ct15 : Value}
    {f16 : Addr}
    {od16 an16 : Option Addr}
    {sl16 : Array (Option Value)}
    {oc16 kV16 dc16 pm16 cd16 ct16 : Value}
    {f17 : Addr}
    {od17 an17 : Option Addr}
    {sl17 : Array (Option Value)}
    {oc17 kV17 dc17 pm17 cd17 ct17 : Value}
    {f18 : Addr}
    {od18 an18 : Option Addr}
    {sl18 : Array (Option Value)}
    {oc18 kV18 dc18 pm18 cd18 ct18 : Value}
    {f19 : Addr}
    {od19 an19 : Option Addr}
    {sl19 : Array (Option Value)}
    {oc19 kV19 dc19 pm19 cd19 ct19 : Value}
    {f20 : Addr}
    {od20 an20 : Option Addr}
    {sl20 : Array (Option Value)}
    {oc20 kV20 dc20 pm20 cd20 ct20 : Value}
    {f21 : Addr}
    {od21 an21 : Option Addr}
    {sl21 : Array (Option Value)}
    {oc21 kV21 dc21 pm21 cd21 ct21 : Value}
    {tX3 : Tok}
    {tX2 : Tok}
    {BN feN ccN cdaN NN : Addr}
    {nmN qnN fileN : Str}
    {bsN bmN sbN : List Value}
    {snN : List Str}
    {abN : Bool}
    {coN : Option Bool}
    {ddN odN anN cdN ceN : Option Addr}
    {m0N m1N m2N m3N m5N : Option Value}
    {vsN : Array Value}
    {tfN : Tok}
    {slN csN czN : Array (Option Value)}
    {ocN kVN dcN pmN ctN clN cxN : Value}
    {TL feG ccG cdaG NG : Addr}
    {nmG qnG fileG : Str}
    {bsG bmG sbG : List Value}
    {snG : List Str}
    {abG : Bool}
    {coG : Option Bool}
    {ddG odG anG cdG ceG : Option Addr}
    {m0G m1G m2G m3G m5G : Option Value}
    {vsG : Array Value}
    {tfG : Tok}
    {slG csG czG : Array (Option Value)}
    {ocG kVG dcG pmG ctG clG cxG : Value}
    {BC feH ccH cdaH NH : Addr}
    {nmH qnH fileH : Str}
    {bsH bmH sbH : List Value}
    {snH : List Str}
    {abH : Bool}
    {coH : Option Bool}
    {ddH odH anH cdH ceH : Option Addr}
    {m0H m1H m2H m3H m5H : Option Value}
    {vsH : Array Value}
    {tfH : Tok}
    {slH csH czH : Array (Option Value)}
    {ocH kVH dcH pmH ctH clH cxH : Value}
    {CH : Addr}
    {fTI : Addr}
    {odTI anTI : Option Addr}
    {slTI : Array (Option Value)}
    {ocTI kVTI dcTI pmTI cdTI ctTI : Value}
    {fTL : Addr}
    {odTL anTL : Option Addr}
    {slTL : Array (Option Value)}
    {ocTL kVTL dcTL pmTL cdTL ctTL : Value}
    {fTO : Addr}
    {odTO anTO : Option Addr}
    {slTO : Array (Option Value)}
    {ocTO kVTO dcTO pmTO cdTO ctTO : Value}
    {fTA : Addr}
    {odTA anTA : Option Addr}
    {slTA : Array (Option Value)}
    {ocTA kVTA dcTA pmTA cdTA ctTA : Value}
    {fTE : Addr}
    {odTE anTE : Option Addr}
    {slTE : Array (Option Value)}
    {ocTE kVTE dcTE pmTE cdTE ctTE : Value}
    {fTF pTF : Addr}
    {restF : List Value}
    {odTF anTF : Option Addr}
    {slTF : Array (Option Value)}
    {ocTF kVTF dcTF pmTF cdTF ctTF : Value}
    {fTR pTR : Addr}
    {restR : List Value}
    {odTR anTR : Option Addr}
    {slTR : Array (Option Value)}
    {ocTR kVTR dcTR pmTR cdTR ctTR : Value}
    (a0 : PySem.W.nsIn K mainGlobals "is_below" = some (some (.ref f0)))
    (l0 : K.lookup f0 = some ⟨oc0, od0, .func (PySem.W.fnOf "is_below" "is_below" (defArgs s_is_below) (defBody s_is_below) (defScope s_is_below) .none kV0 dc0 pm0 an0 cd0 ct0), sl0⟩)
    (c0 : PySem.W.codeIn K cd0 "is_below" = true)
    (k0 : PySem.W.keepIn K (.ref f0) = true)
    (a1 : PySem.W.nsIn K mainGlobals "check_callers" = some (some (.ref f1)))
    (l1 : K.lookup f1 = some ⟨oc1, od1, .func (PySem.W.fnOf "check_callers" "check_callers" (defArgs s_check_callers) (defBody s_check_callers) (defScope s_check_callers) .none kV1 dc1 pm1 an1 cd1 ct1), sl1⟩)
    (c1 : PySem.W.codeIn K cd1 "check_callers" = true)
    (k1 : PySem.W.keepIn K (.ref f1) = true)
    (a2 : PySem.W.nsIn K mainGlobals "are_groups" = some (some (.ref f2)))
    (l2 : K.lookup f2 = some ⟨oc2, od2, .func (PySem.W.fnOf "are_groups" "are_groups" (defArgs s_are_groups) (defBody s_are_groups) (defScope s_are_groups) .none kV2 dc2 pm2 an2 cd2 ct2), sl2⟩)
    (c2 : PySem.W.codeIn K cd2 "are_groups" = true)
    (k2 : PySem.W.keepIn K (.ref f2) = true)
    (a3 : PySem.W.nsIn K mainGlobals "is_state" = some (some (.ref f3)))
    (l3 : K.lookup f3 = some ⟨oc3, od3, .func (PySem.W.fnOf "is_state" "is_state" (defArgs s_is_state) (defBody s_is_state) (defScope s_is_state) .none kV3 dc3 pm3 an3 cd3 ct3), sl3⟩)
    (c3 : PySem.W.codeIn K cd3 "is_state" = true)
    (k3 : PySem.W.keepIn K (.ref f3) = true)
    (a4 : PySem.W.nsIn K mainGlobals "lets" = some (some (.ref f4)))
    (l4 : K.lookup f4 = some ⟨oc4, od4, .func (PySem.W.fnOf "lets" "lets" (defArgs s_lets) (defBody s_lets) (defScope s_lets) .none kV4 dc4 pm4 an4 cd4 ct4), sl4⟩)
    (c4 : PySem.W.codeIn K cd4 "lets" = true)
    (k4 : PySem.W.keepIn K (.ref f4) = true)
    (a5 : PySem.W.nsIn K mainGlobals "able_tuples" = some (some (.ref f5)))
    (l5 : K.lookup f5 = some ⟨oc5, od5, .func (PySem.W.fnOf "able_tuples" "able_tuples" (defArgs s_able_tuples) (defBody s_able_tuples) (defScope s_able_tuples) .none kV5 dc5 pm5 an5 cd5 ct5), sl5⟩)
    (c5 : PySem.W.codeIn K cd5 "able_tuples" = true)
    (k5 : PySem.W.keepIn K (.ref f5) = true)
    (a6 : PySem.W.nsIn K mainGlobals "parting_row" = some (some (.ref f6)))
    (l6 : K.lookup f6 = some ⟨oc6, od6, .func (PySem.W.fnOf "parting_row" "parting_row" (defArgs s_parting_row) (defBody s_parting_row) (defScope s_parting_row) .none kV6 dc6 pm6 an6 cd6 ct6), sl6⟩)
    (c6 : PySem.W.codeIn K cd6 "parting_row" = true)
    (k6 : PySem.W.keepIn K (.ref f6) = true)
    (a7 : PySem.W.nsIn K mainGlobals "_law_cell" = some (some (.ref f7)))
    (l7 : K.lookup f7 = some ⟨oc7, od7, .func (PySem.W.fnOf "_law_cell" "_law_cell" (defArgs s_law_cell) (defBody s_law_cell) (defScope s_law_cell) .none kV7 dc7 pm7 an7 cd7 ct7), sl7⟩)
    (c7 : PySem.W.codeIn K cd7 "_law_cell" = true)
    (k7 : PySem.W.keepIn K (.ref f7) = true)
    (a8 : PySem.W.nsIn K mainGlobals "_law_row" = some (some (.ref f8)))
    (l8 : K.lookup f8 = some ⟨oc8, od8, .func (PySem.W.fnOf "_law_row" "_law_row" (defArgs s_law_row) (defBody s_law_row) (defScope s_law_row) .none kV8 dc8 pm8 an8 cd8 ct8), sl8⟩)
    (c8 : PySem.W.codeIn K cd8 "_law_row" = true)
    (k8 : PySem.W.keepIn K (.ref f8) = true)
    (a9 : PySem.W.nsIn K mainGlobals "_law_state" = some (some (.ref f9)))
    (l9 : K.lookup f9 = some ⟨oc9, od9, .func (PySem.W.fnOf "_law_state" "_law_state" (defArgs s_law_state) (defBody s_law_state) (defScope s_law_state) .none kV9 dc9 pm9 an9 cd9 ct9), sl9⟩)
    (c9 : PySem.W.codeIn K cd9 "_law_state" = true)
    (k9 : PySem.W.keepIn K (.ref f9) = true)
    (a10 : PySem.W.nsIn K mainGlobals "_law_ladder" = some (some (.ref f10)))
    (l10 : K.lookup f10 = some ⟨oc10, od10, .func (PySem.W.fnOf "_law_ladder" "_law_ladder" (defArgs s_law_ladder) (defBody s_law_ladder) (defScope s_law_ladder) .none kV10 dc10 pm10 an10 cd10 ct10), sl10⟩)
    (c10 : PySem.W.codeIn K cd10 "_law_ladder" = true)
    (k10 : PySem.W.keepIn K (.ref f10) = true)
    (a11 : PySem.W.nsIn K mainGlobals "_law_merged" = some (some (.ref f11)))
    (l11 : K.lookup f11 = some ⟨oc11, od11, .func (PySem.W.fnOf "_law_merged" "_law_merged" (defArgs s_law_merged) (defBody s_law_merged) (defScope s_law_merged) .none kV11 dc11 pm11 an11 cd11 ct11), sl11⟩)
    (c11 : PySem.W.codeIn K cd11 "_law_merged" = true)
    (k11 : PySem.W.keepIn K (.ref f11) = true)
    (a12 : PySem.W.nsIn K mainGlobals "_law_over" = some (some (.ref f12)))
    (l12 : K.lookup f12 = some ⟨oc12, od12, .func (PySem.W.fnOf "_law_over" "_law_over" (defArgs s_law_over) (defBody s_law_over) (defScope s_law_over) .none kV12 dc12 pm12 an12 cd12 ct12), sl12⟩)
    (c12 : PySem.W.codeIn K cd12 "_law_over" = true)
    (k12 : PySem.W.keepIn K (.ref f12) = true)
    (a13 : PySem.W.nsIn K mainGlobals "_law_pairs" = some (some (.ref f13)))
    (l13 : K.lookup f13 = some ⟨oc13, od13, .func (PySem.W.fnOf "_law_pairs" "_law_pairs" (defArgs s_law_pairs) (defBody s_law_pairs) (defScope s_law_pairs) .none kV13 dc13 pm13 an13 cd13 ct13), sl13⟩)
    (c13 : PySem.W.codeIn K cd13 "_law_pairs" = true)
    (k13 : PySem.W.keepIn K (.ref f13) = true)
    (a14 : PySem.W.nsIn K mainGlobals "_law_lets" = some (some (.ref f14)))
    (l14 : K.lookup f14 = some ⟨oc14, od14, .func (PySem.W.fnOf "_law_lets" "_law_lets" (defArgs s_law_lets) (defBody s_law_lets) (defScope s_law_lets) .none kV14 dc14 pm14 an14 cd14 ct14), sl14⟩)
    (c14 : PySem.W.codeIn K cd14 "_law_lets" = true)
    (k14 : PySem.W.keepIn K (.ref f14) = true)
    (a15 : PySem.W.nsIn K mainGlobals "_law_moves" = some (some (.ref f15)))
    (l15 : K.lookup f15 = some ⟨oc15, od15, .func (PySem.W.fnOf "_law_moves" "_law_moves" (defArgs s_law_moves) (defBody s_law_moves) (defScope s_law_moves) .none kV15 dc15 pm15 an15 cd15 ct15), sl15⟩)
    (c15 : PySem.W.codeIn K cd15 "_law_moves" = true)
    (k15 : PySem.W.keepIn K (.ref f15) = true)
    (a16 : PySem.W.nsIn K mainGlobals "_law_ends" = some (some (.ref f16)))
    (l16 : K.lookup f16 = some ⟨oc16, od16, .func (PySem.W.fnOf "_law_ends" "_law_ends" (defArgs s_law_ends) (defBody s_law_ends) (defScope s_law_ends) .none kV16 dc16 pm16 an16 cd16 ct16), sl16⟩)
    (c16 : PySem.W.codeIn K cd16 "_law_ends" = true)
    (k16 : PySem.W.keepIn K (.ref f16) = true)
    (a17 : PySem.W.nsIn K mainGlobals "_law_due" = some (some (.ref f17)))
    (l17 : K.lookup f17 = some ⟨oc17, od17, .func (PySem.W.fnOf "_law_due" "_law_due" (defArgs s_law_due) (defBody s_law_due) (defScope s_law_due) .none kV17 dc17 pm17 an17 cd17 ct17), sl17⟩)
    (c17 : PySem.W.codeIn K cd17 "_law_due" = true)
    (k17 : PySem.W.keepIn K (.ref f17) = true)
    (a18 : PySem.W.nsIn K mainGlobals "_law_number" = some (some (.ref f18)))
    (l18 : K.lookup f18 = some ⟨oc18, od18, .func (PySem.W.fnOf "_law_number" "_law_number" (defArgs s_law_number) (defBody s_law_number) (defScope s_law_number) .none kV18 dc18 pm18 an18 cd18 ct18), sl18⟩)
    (c18 : PySem.W.codeIn K cd18 "_law_number" = true)
    (k18 : PySem.W.keepIn K (.ref f18) = true)
    (a19 : PySem.W.nsIn K mainGlobals "_law_same" = some (some (.ref f19)))
    (l19 : K.lookup f19 = some ⟨oc19, od19, .func (PySem.W.fnOf "_law_same" "_law_same" (defArgs s_law_same) (defBody s_law_same) (defScope s_law_same) .none kV19 dc19 pm19 an19 cd19 ct19), sl19⟩)
    (c19 : PySem.W.codeIn K cd19 "_law_same" = true)
    (k19 : PySem.W.keepIn K (.ref f19) = true)
    (a20 : PySem.W.nsIn K mainGlobals "_law_parts" = some (some (.ref f20)))
    (l20 : K.lookup f20 = some ⟨oc20, od20, .func (PySem.W.fnOf "_law_parts" "_law_parts" (defArgs s_law_parts) (defBody s_law_parts) (defScope s_law_parts) .none kV20 dc20 pm20 an20 cd20 ct20), sl20⟩)
    (c20 : PySem.W.codeIn K cd20 "_law_parts" = true)
    (k20 : PySem.W.keepIn K (.ref f20) = true)
    (a21 : PySem.W.nsIn K mainGlobals "law" = some (some (.ref f21)))
    (l21 : K.lookup f21 = some ⟨oc21, od21, .func (PySem.W.fnOf "law" "law" (defArgs s_law) (defBody s_law) (defScope s_law) .none kV21 dc21 pm21 an21 cd21 ct21), sl21⟩)
    (c21 : PySem.W.codeIn K cd21 "law" = true)
    (k21 : PySem.W.keepIn K (.ref f21) = true)
    (z_isinstance : PySem.W.nsIn K mainGlobals "isinstance" = some none)
    (z_int : PySem.W.nsIn K mainGlobals "int" = some none)
    (z_bool : PySem.W.nsIn K mainGlobals "bool" = some none)
    (z_tuple : PySem.W.nsIn K mainGlobals "tuple" = some none)
    (z_list : PySem.W.nsIn K mainGlobals "list" = some none)
    (z_len : PySem.W.nsIn K mainGlobals "len" = some none)
    (z_all : PySem.W.nsIn K mainGlobals "all" = some none)
    (z_sorted : PySem.W.nsIn K mainGlobals "sorted" = some none)
    (z_range : PySem.W.nsIn K mainGlobals "range" = some none)
    (z_enumerate : PySem.W.nsIn K mainGlobals "enumerate" = some none)
    (z_sum : PySem.W.nsIn K mainGlobals "sum" = some none)
    (z_abs : PySem.W.nsIn K mainGlobals "abs" = some none)
    (z_super : PySem.W.nsIn K mainGlobals "super" = some none)
    (gX3 : PySem.W.nsIn K mainGlobals "MOST_CALLERS" = some (some (.int 3 tX3)))
    (gX2 : PySem.W.nsIn K mainGlobals "MOST_STATES" = some (some (.int 12 tX2)))
    (aN : PySem.W.nsIn K mainGlobals "BadNumber" = some (some (.ref BN)))
    (xN : K.lookup BN = some (excClassObj nmN qnN BN NN bsN bmN true snN sbN abN coN ddN m0N m1N m2N m3N m5N "ValueError.__new__"))
    (rN : PySem.HandSPX.refsVE bmN = true)
    (b1N : PySem.W.findIn K (.ref BN) "__setattr__" = some (some (.builtin "object.__setattr__")))
    (q1N : PySem.W.subIn K (.ref BN) (.type "BaseException") = some true)
    (q2N : PySem.W.isClsIn K BN = true)
    (q3N : PySem.W.typeIn K (.ref BN) = some (.type "type"))
    (b4N : PySem.W.keepIn K (.ref BN) = true)
    (b5N : PySem.W.findIn K (.ref BN) "__init__" = some (some (.ref feN)))
    (b6N : PySem.W.typeIn K (.ref feN) = some (.type "function"))
    (lN : K.lookup feN = some ⟨ocN, odN, .func (PySem.W.fnX "__init__" "BadNumber.__init__" (defArgs s_BadNumber_init) (defBody s_BadNumber_init) (defScope s_BadNumber_init) [("__class__", ccN)] .none kVN dcN pmN anN (.ref cdaN) ctN), slN⟩)
    (cN : PySem.W.codeIn K (.ref cdaN) "BadNumber.__init__" = true)
    (kN : PySem.W.keepIn K (.ref feN) = true)
    (eN : K.lookup ccN = some ⟨clN, cdN, .cell (some (.ref BN)), csN⟩)
    (b7N : PySem.W.ks_superIn K BN BN "__init__" = some (some (.builtin "ValueError.__init__")))
    (b8N : PySem.W.subIn K (.ref BN) (.type "ValueError") = some true)
    (b9 : PySem.W.nsIn K cStatics "thirdparty.any" = some none)
    (b14 : (l.prog.main.scope.names.lookup ("super" : Str)).isSome = false)
    (b31 : PySem.W.kitMeta "ValueError" = true)
    (p12 : PySem.W.specialIn K (.builtin "object.__class__") "__get__" = some (some (.builtin "getset_descriptor.__get__")))
    (p13 : PySem.W.takesIn K (.builtin "object.__class__") = some true)
    (b10N : PySem.W.mroIn K BN (.ref BN) = some true)
    (b11N : K.lookup cdaN = some ⟨cxN, ceN, .fields vsN, czN⟩)
    (b12N : vsN[2]? = some (.str fileN tfN))
    (b13N : ((l.prog.main.file : Str) == fileN) = true)
    (b15N : PySem.W.findIn K (.ref BN) "number" = some none)
    (b17N : PySem.W.findIn K (.ref BN) "__getattribute__" = some (some (.builtin "BaseException.__getattribute__")))
    (b18N : PySem.W.findIn K (.ref BN) "__getattr__" = some none)
    (b19N : PySem.W.hasDictIn K BN = true)
    (b25N : PySem.W.findIn K (.ref BN) "__class__" = some (some (.builtin "object.__class__")))
    (b26N : PySem.W.mroIn K BN (.type "object") = some true)
    (aG : PySem.W.nsIn K mainGlobals "TooLarge" = some (some (.ref TL)))
    (xG : K.lookup TL = some (excClassObj nmG qnG TL NG bsG bmG true snG sbG abG coG ddG m0G m1G m2G m3G m5G "ValueError.__new__"))
    (rG : PySem.HandSPX.refsVE bmG = true)
    (b1G : PySem.W.findIn K (.ref TL) "__setattr__" = some (some (.builtin "object.__setattr__")))
    (q1G : PySem.W.subIn K (.ref TL) (.type "BaseException") = some true)
    (q2G : PySem.W.isClsIn K TL = true)
    (q3G : PySem.W.typeIn K (.ref TL) = some (.type "type"))
    (b4G : PySem.W.keepIn K (.ref TL) = true)
    (b5G : PySem.W.findIn K (.ref TL) "__init__" = some (some (.ref feG)))
    (b6G : PySem.W.typeIn K (.ref feG) = some (.type "function"))
    (lG : K.lookup feG = some ⟨ocG, odG, .func (PySem.W.fnX "__init__" "TooLarge.__init__" (defArgs s_TooLarge_init) (defBody s_TooLarge_init) (defScope s_TooLarge_init) [("__class__", ccG)] .none kVG dcG pmG anG (.ref cdaG) ctG), slG⟩)
    (cG : PySem.W.codeIn K (.ref cdaG) "TooLarge.__init__" = true)
    (kG : PySem.W.keepIn K (.ref feG) = true)
    (eG : K.lookup ccG = some ⟨clG, cdG, .cell (some (.ref TL)), csG⟩)
    (b7G : PySem.W.ks_superIn K TL TL "__init__" = some (some (.builtin "ValueError.__init__")))
    (b8G : PySem.W.subIn K (.ref TL) (.type "ValueError") = some true)
    (b10G : PySem.W.mroIn K TL (.ref TL) = some true)
    (b11G : K.lookup cdaG = some ⟨cxG, ceG, .fields vsG, czG⟩)
    (b12G : vsG[2]? = some (.str fileG tfG))
    (b13G : ((l.prog.main.file : Str) == fileG) = true)
    (b15G : PySem.W.findIn K (.ref TL) "bound" = some none)
    (b17G : PySem.W.findIn K (.ref TL) "__getattribute__" = some (some (.builtin "BaseException.__getattribute__")))
    (b18G : PySem.W.findIn K (.ref TL) "__getattr__" = some none)
    (b19G : PySem.W.hasDictIn K TL = true)
    (b25G : PySem.W.findIn K (.ref TL) "__class__" = some (some (.builtin "object.__class__")))
    (b26G : PySem.W.mroIn K TL (.type "object") = some true)
    (aH : PySem.W.nsIn K mainGlobals "BadChooser" = some (some (.ref BC)))
    (xH : K.lookup BC = some (excClassObj nmH qnH BC NH bsH bmH true snH sbH abH coH ddH m0H m1H m2H m3H m5H "ValueError.__new__"))
    (rH : PySem.HandSPX.refsVE bmH = true)
    (b1H : PySem.W.findIn K (.ref BC) "__setattr__" = some (some (.builtin "object.__setattr__")))
    (q1H : PySem.W.subIn K (.ref BC) (.type "BaseException") = some true)
    (q2H : PySem.W.isClsIn K BC = true)
    (q3H : PySem.W.typeIn K (.ref BC) = some (.type "type"))
    (b4H : PySem.W.keepIn K (.ref BC) = true)
    (b5H : PySem.W.findIn K (.ref BC) "__init__" = some (some (.ref feH)))
    (b6H : PySem.W.typeIn K (.ref feH) = some (.type "function"))
    (lH : K.lookup feH = some ⟨ocH, odH, .func (PySem.W.fnX "__init__" "BadChooser.__init__" (defArgs s_BadChooser_init) (defBody s_BadChooser_init) (defScope s_BadChooser_init) [("__class__", ccH)] .none kVH dcH pmH anH (.ref cdaH) ctH), slH⟩)
    (cH : PySem.W.codeIn K (.ref cdaH) "BadChooser.__init__" = true)
    (kH : PySem.W.keepIn K (.ref feH) = true)
    (eH : K.lookup ccH = some ⟨clH, cdH, .cell (some (.ref BC)), csH⟩)
    (b7H : PySem.W.ks_superIn K BC BC "__init__" = some (some (.builtin "ValueError.__init__")))
    (b8H : PySem.W.subIn K (.ref BC) (.type "ValueError") = some true)
    (b10H : PySem.W.mroIn K BC (.ref BC) = some true)
    (b11H : K.lookup cdaH = some ⟨cxH, ceH, .fields vsH, czH⟩)
    (b12H : vsH[2]? = some (.str fileH tfH))
    (b13H : ((l.prog.main.file : Str) == fileH) = true)
    (b15H : PySem.W.findIn K (.ref BC) "state" = some none)
    (b17H : PySem.W.findIn K (.ref BC) "__getattribute__" = some (some (.builtin "BaseException.__getattribute__")))
    (b18H : PySem.W.findIn K (.ref BC) "__getattr__" = some none)
    (b19H : PySem.W.hasDictIn K BC = true)
    (b25H : PySem.W.findIn K (.ref BC) "__class__" = some (some (.builtin "object.__class__")))
    (b26H : PySem.W.mroIn K BC (.type "object") = some true)
    (aT : PySem.W.nsIn K mainGlobals "Chooser" = some (some (.ref CH)))
    (p1T : PySem.W.plainGet K CH Str.empty = true)
    (p2T : PySem.W.hasDictIn K CH = true)
    (p3T : PySem.W.plainOver K CH = true)
    (p4T : PySem.W.findIn K (.ref CH) "__setattr__" = some (some (.builtin "object.__setattr__")))
    (n0T : PySem.W.findIn K (.ref CH) "callers" = some none)
    (n1T : PySem.W.findIn K (.ref CH) "_states" = some none)
    (p9T : PySem.W.keepIn K (.ref CH) = true)
    (p5T : PySem.W.makesIn K CH = true)
    (mTI : PySem.W.findIn K (.ref CH) "__init__" = some (some (.ref fTI)))
    (hTI : PySem.W.isFn K (.ref fTI) = true)
    (lTI : K.lookup fTI = some ⟨ocTI, odTI, .func (PySem.W.fnOf "__init__" "Chooser.__init__" (defArgs s_Chooser_init) (defBody s_Chooser_init) (defScope s_Chooser_init) .none kVTI dcTI pmTI anTI cdTI ctTI), slTI⟩)
    (cTI : PySem.W.codeIn K cdTI "Chooser.__init__" = true)
    (kTI : PySem.W.keepIn K (.ref fTI) = true)
    (mTL : PySem.W.findIn K (.ref CH) "__len__" = some (some (.ref fTL)))
    (hTL : PySem.W.isFn K (.ref fTL) = true)
    (lTL : K.lookup fTL = some ⟨ocTL, odTL, .func (PySem.W.fnOf "__len__" "Chooser.__len__" (defArgs s_Chooser_len) (defBody s_Chooser_len) (defScope s_Chooser_len) .none kVTL dcTL pmTL anTL cdTL ctTL), slTL⟩)
    (cTL : PySem.W.codeIn K cdTL "Chooser.__len__" = true)
    (kTL : PySem.W.keepIn K (.ref fTL) = true)
    (mTO : PySem.W.findIn K (.ref CH) "__call__" = some (some (.ref fTO)))
    (hTO : PySem.W.isFn K (.ref fTO) = true)
    (lTO : K.lookup fTO = some ⟨ocTO, odTO, .func (PySem.W.fnOf "__call__" "Chooser.__call__" (defArgs s_Chooser_call) (defBody s_Chooser_call) (defScope s_Chooser_call) .none kVTO dcTO pmTO anTO cdTO ctTO), slTO⟩)
    (cTO : PySem.W.codeIn K cdTO "Chooser.__call__" = true)
    (kTO : PySem.W.keepIn K (.ref fTO) = true)
    (mTA : PySem.W.findIn K (.ref CH) "after" = some (some (.ref fTA)))
    (hTA : PySem.W.isFn K (.ref fTA) = true)
    (lTA : K.lookup fTA = some ⟨ocTA, odTA, .func (PySem.W.fnOf "after" "Chooser.after" (defArgs s_Chooser_after) (defBody s_Chooser_after) (defScope s_Chooser_after) .none kVTA dcTA pmTA anTA cdTA ctTA), slTA⟩)
    (cTA : PySem.W.codeIn K cdTA "Chooser.after" = true)
    (kTA : PySem.W.keepIn K (.ref fTA) = true)
    (mTE : PySem.W.findIn K (.ref CH) "_state" = some (some (.ref fTE)))
    (hTE : PySem.W.isFn K (.ref fTE) = true)
    (lTE : K.lookup fTE = some ⟨ocTE, odTE, .func (PySem.W.fnOf "_state" "Chooser._state" (defArgs s_Chooser_state) (defBody s_Chooser_state) (defScope s_Chooser_state) .none kVTE dcTE pmTE anTE cdTE ctTE), slTE⟩)
    (cTE : PySem.W.codeIn K cdTE "Chooser._state" = true)
    (kTE : PySem.W.keepIn K (.ref fTE) = true)
    (iTO : PySem.W.fnIn K fTO = true)
    (st1 : PySem.W.readsIn K CH (.type "type") = true)
    (st2 : PySem.W.specialIn K (.ref CH) "__getattribute__" = some (some (.builtin "type.__getattribute__")))
    (saF : PySem.W.findCls K (.ref CH) (.type "type") "free" = some (.get (.builtin "staticmethod.__get__") (.ref pTF) .none (.ref CH)))
    (sbF : PySem.W.recIn K pTF "staticmethod" = some (.ref fTF :: restF))
    (lTF : K.lookup fTF = some ⟨ocTF, odTF, .func (PySem.W.fnOf "free" "Chooser.free" (defArgs s_Chooser_free) (defBody s_Chooser_free) (defScope s_Chooser_free) .none kVTF dcTF pmTF anTF cdTF ctTF), slTF⟩)
    (cTF : PySem.W.codeIn K cdTF "Chooser.free" = true)
    (kTF : PySem.W.keepIn K (.ref fTF) = true)
    (saR : PySem.W.findCls K (.ref CH) (.type "type") "ranked" = some (.get (.builtin "staticmethod.__get__") (.ref pTR) .none (.ref CH)))
    (sbR : PySem.W.recIn K pTR "staticmethod" = some (.ref fTR :: restR))
    (lTR : K.lookup fTR = some ⟨ocTR, odTR, .func (PySem.W.fnOf "ranked" "Chooser.ranked" (defArgs s_Chooser_ranked) (defBody s_Chooser_ranked) (defScope s_Chooser_ranked) .none kVTR dcTR pmTR anTR cdTR ctTR), slTR⟩)
    (cTR : PySem.W.codeIn K cdTR "Chooser.ranked" = true)
    (kTR : PySem.W.keepIn K (.ref fTR) = true)
    (sNN : PySem.W.subIn K (.ref BN) (.ref BN) = some true) :
    ∃ fd : FuncData, (∀ (s : Shared) (v : Value), BindsTo s fd ⟨[v], []⟩ [("_law_script", v)]) ∧ ∀ base : Heap, K.In base → base.Ns mainGlobals mg → FnOk l.prog w K mg base CX0 9 fa fd ["_law_script"] (spLaw K) := by
  cases hfa.symm.trans (PySem.W.mg_of X G a21)
  refine ⟨PySem.W.fnOf "law" "law" (defArgs s_law) (defBody s_law) (defScope s_law) .none kV21 dc21 pm21 an21 cd21 ct21, fun s v => .of_eq rfl, fun base _ _ => ?_⟩
  have T1 : Bt mg tX3 tX2 := ⟨(PySem.W.mg_none_of X G z_isinstance), (PySem.W.mg_none_of X G z_int), (PySem.W.mg_none_of X G z_bool), (PySem.W.mg_none_of X G z_tuple), (PySem.W.mg_none_of X G z_list), (PySem.W.mg_none_of X G z_len), (PySem.W.mg_none_of X G z_all), (PySem.W.mg_none_of X G z_sorted), (PySem.W.mg_none_of X G z_range), (PySem.W.mg_none_of X G z_enumerate), (PySem.W.mg_of X G gX3), (PySem.W.mg_of X G gX2)⟩
  have TW : BtW mg := ⟨(PySem.W.mg_none_of X G z_len), (PySem.W.mg_none_of X G z_int), (PySem.W.mg_none_of X G z_sum), (PySem.W.mg_none_of X G z_abs), (PySem.W.mg_none_of X G z_range), (PySem.W.mg_none_of X G z_list), (PySem.W.mg_none_of X G z_tuple)⟩
  have TS : BtS mg := ⟨(PySem.W.mg_none_of X G z_isinstance), (PySem.W.mg_none_of X G z_int), (PySem.W.mg_none_of X G z_bool), (PySem.W.mg_none_of X G z_tuple), (PySem.W.mg_none_of X G z_list), (PySem.W.mg_none_of X G z_len), (PySem.W.mg_none_of X G z_range)⟩
  have OXN : OexC K BN := ⟨⟨nmN, qnN, NN, bsN, bmN, snN, sbN, abN, coN, ddN, m0N, m1N, m2N, m3N, m5N, xN, rN⟩, b1N, q1N, q3N, b4N⟩
  have ECN : ErrC K BN := ⟨OXN, b7N, b8N, b9, b10N⟩
  have CFN : CodeF K l.prog cdaN := ⟨⟨cxN, ceN, vsN, czN, fileN, tfN, b11N, b12N, b13N⟩, b14⟩
  have FXN : FunX K "__init__" "BadNumber.__init__" s_BadNumber_init feN _ ccN cdaN BN := ⟨⟨ocN, odN, kVN, dcN, pmN, anN, ctN, slN, rfl, lN, cN⟩, ⟨clN, cdN, csN, eN⟩, kN⟩
  have KTN : KitC K BN := ⟨q2N, b17N, b18N, q1N, b25N, p12, p13, b26N⟩
  have GXN := ok_BadNumber_init (P := l.prog) (w := w) (base := base) (mg := mg) (CX := L2.CX l.prog w) (Pf := (fun _ => True)) FXN ECN CFN (PySem.W.mg_none_of X G z_super) b15N
  have ERN : Er1 l.prog w K mg base "BadNumber" "number" BN feN _ ["self", "number"] (fun _ => True) := ⟨(PySem.W.mg_of X G aN), OXN, b5N, b6N, .all fun us hl => match us, hl with | [_, _], _ => rfl, GXN⟩
  have OXG : OexC K TL := ⟨⟨nmG, qnG, NG, bsG, bmG, snG, sbG, abG, coG, ddG, m0G, m1G, m2G, m3G, m5G, xG, rG⟩, b1G, q1G, q3G, b4G⟩
  have ECG : ErrC K TL := ⟨OXG, b7G, b8G, b9, b10G⟩
  have CFG : CodeF K l.prog cdaG := ⟨⟨cxG, ceG, vsG, czG, fileG, tfG, b11G, b12G, b13G⟩, b14⟩
  have FXG : FunX K "__init__" "TooLarge.__init__" s_TooLarge_init feG _ ccG cdaG TL := ⟨⟨ocG, odG, kVG, dcG, pmG, anG, ctG, slG, rfl, lG, cG⟩, ⟨clG, cdG, csG, eG⟩, kG⟩
  have KTG : KitC K TL := ⟨q2G, b17G, b18G, q1G, b25G, p12, p13, b26G⟩
  have GXG := ok_TooLarge_init (P := l.prog) (w := w) (base := base) (mg := mg) (CX := L2.CX l.prog w) (Pf := SmallI) FXG ECG CFG (PySem.W.mg_none_of X G z_super) b15G (fun v h => smallI_log h)
  have ERG : Er1 l.prog w K mg base "TooLarge" "bound" TL feG _ ["self", "bound"] SmallI := ⟨(PySem.W.mg_of X G aG), OXG, b5G, b6G, .all fun us hl => match us, hl with | [_, _], _ => rfl, GXG⟩
  have OXH : OexC K BC := ⟨⟨nmH, qnH, NH, bsH, bmH, snH, sbH, abH, coH, ddH, m0H, m1H, m2H, m3H, m5H, xH, rH⟩, b1H, q1H, q3H, b4H⟩
  have ECH : ErrC K BC := ⟨OXH, b7H, b8H, b9, b10H⟩
  have CFH : CodeF K l.prog cdaH := ⟨⟨cxH, ceH, vsH, czH, fileH, tfH, b11H, b12H, b13H⟩, b14⟩
  have FXH : FunX K "__init__" "BadChooser.__init__" s_BadChooser_init feH _ ccH cdaH BC := ⟨⟨ocH, odH, kVH, dcH, pmH, anH, ctH, slH, rfl, lH, cH⟩, ⟨clH, cdH, csH, eH⟩, kH⟩
  have KTH : KitC K BC := ⟨q2H, b17H, b18H, q1H, b25H, p12, p13, b26H⟩
  have GXH := ok_BadChooser_init (P := l.prog) (w := w) (base := base) (mg := mg) (CX := L2.CX l.prog w) (Pf := (fun _ => True)) FXH ECH CFH (PySem.W.mg_none_of X G z_super) b15H
  have ERH : Er1 l.prog w K mg base "BadChooser" "state" BC feH _ ["self", "state"] (fun _ => True) := ⟨(PySem.W.mg_of X G aH), OXH, b5H, b6H, .all fun us hl => match us, hl with | [_, _], _ => rfl, GXH⟩
  have C : ChC K mg CH := ⟨(PySem.W.mg_of X G aT), ⟨p1T, p2T, p3T, p4T⟩, n0T, n1T⟩
  have TE : BtE K mg CH BN := ⟨TW, (PySem.W.mg_of X G aT), (PySem.W.mg_of X G aN), ⟨b17N, b18N, q1N, b19N⟩, b15N, exm_sub q1N q2N q3N sNN⟩
  have F0 := fun_mk (st := s_is_below) l0 c0 k0
  have D0 : Df K mg "is_below" s_is_below ["value", "bound"] f0 _ := ⟨F0, PySem.W.mg_of X G a0, F0.binds (ps := ["value", "bound"]) fun _ _ _ _ _ _ us hl => match us, hl with | [_, _], _ => rfl⟩
  have F1 := fun_mk (st := s_check_callers) l1 c1 k1
  have D1 : Df K mg "check_callers" s_check_callers ["callers"] f1 _ := ⟨F1, PySem.W.mg_of X G a1, F1.binds (ps := ["callers"]) fun _ _ _ _ _ _ us hl => match us, hl with | [_], _ => rfl⟩
  have F2 := fun_mk (st := s_are_groups) l2 c2 k2
  have D2 : Df K mg "are_groups" s_are_groups ["groups", "callers"] f2 _ := ⟨F2, PySem.W.mg_of X G a2, F2.binds (ps := ["groups", "callers"]) fun _ _ _ _ _ _ us hl => match us, hl with | [_, _], _ => rfl⟩
  have F3 := fun_mk (st := s_is_state) l3 c3 k3
  have D3 : Df K mg "is_state" s_is_state ["state", "callers", "many"] f3 _ := ⟨F3, PySem.W.mg_of X G a3, F3.binds (ps := ["state", "callers", "many"]) fun _ _ _ _ _ _ us hl => match us, hl with | [_, _, _], _ => rfl⟩
  have F4 := fun_mk (st := s_lets) l4 c4 k4
  have D4 : Df K mg "lets" s_lets ["chooser", "row"] f4 _ := ⟨F4, PySem.W.mg_of X G a4, F4.binds (ps := ["chooser", "row"]) fun _ _ _ _ _ _ us hl => match us, hl with | [_, _], _ => rfl⟩
  have F5 := fun_mk (st := s_able_tuples) l5 c5 k5
  have D5 : Df K mg "able_tuples" s_able_tuples ["callers"] f5 _ := ⟨F5, PySem.W.mg_of X G a5, F5.binds (ps := ["callers"]) fun _ _ _ _ _ _ us hl => match us, hl with | [_], _ => rfl⟩
  have F6 := fun_mk (st := s_parting_row) l6 c6 k6
  have D6 : Df K mg "parting_row" s_parting_row ["a", "b"] f6 _ := ⟨F6, PySem.W.mg_of X G a6, F6.binds (ps := ["a", "b"]) fun _ _ _ _ _ _ us hl => match us, hl with | [_, _], _ => rfl⟩
  have F7 := fun_mk (st := s_law_cell) l7 c7 k7
  have D7 : Df K mg "_law_cell" s_law_cell ["_law_script", "_law_k"] f7 _ := ⟨F7, PySem.W.mg_of X G a7, F7.binds (ps := ["_law_script", "_law_k"]) fun _ _ _ _ _ _ us hl => match us, hl with | [_, _], _ => rfl⟩
  have F8 := fun_mk (st := s_law_row) l8 c8 k8
  have D8 : Df K mg "_law_row" s_law_row ["_law_cell_here", "_law_many"] f8 _ := ⟨F8, PySem.W.mg_of X G a8, F8.binds (ps := ["_law_cell_here", "_law_many"]) fun _ _ _ _ _ _ us hl => match us, hl with | [_, _], _ => rfl⟩
  have F9 := fun_mk (st := s_law_state) l9 c9 k9
  have D9 : Df K mg "_law_state" s_law_state ["_law_row_here", "_law_many", "_law_size"] f9 _ := ⟨F9, PySem.W.mg_of X G a9, F9.binds (ps := ["_law_row_here", "_law_many", "_law_size"]) fun _ _ _ _ _ _ us hl => match us, hl with | [_, _, _], _ => rfl⟩
  have F10 := fun_mk (st := s_law_ladder) l10 c10 k10
  have D10 : Df K mg "_law_ladder" s_law_ladder ["_law_states", "_law_many"] f10 _ := ⟨F10, PySem.W.mg_of X G a10, F10.binds (ps := ["_law_states", "_law_many"]) fun _ _ _ _ _ _ us hl => match us, hl with | [_, _], _ => rfl⟩
  have F11 := fun_mk (st := s_law_merged) l11 c11 k11
  have D11 : Df K mg "_law_merged" s_law_merged ["_law_groups", "_law_row_here"] f11 _ := ⟨F11, PySem.W.mg_of X G a11, F11.binds (ps := ["_law_groups", "_law_row_here"]) fun _ _ _ _ _ _ us hl => match us, hl with | [_, _], _ => rfl⟩
  have F12 := fun_mk (st := s_law_over) l12 c12 k12
  have D12 : Df K mg "_law_over" s_law_over ["_law_script", "_law_place", "_law_states", "_law_many", "_law_mode", "_law_head"] f12 _ := ⟨F12, PySem.W.mg_of X G a12, F12.binds (ps := ["_law_script", "_law_place", "_law_states", "_law_many", "_law_mode", "_law_head"]) fun _ _ _ _ _ _ us hl => match us, hl with | [_, _, _, _, _, _], _ => rfl⟩
  have F13 := fun_mk (st := s_law_pairs) l13 c13 k13
  have D13 : Df K mg "_law_pairs" s_law_pairs ["_law_many"] f13 _ := ⟨F13, PySem.W.mg_of X G a13, F13.binds (ps := ["_law_many"]) fun _ _ _ _ _ _ us hl => match us, hl with | [_], _ => rfl⟩
  have F14 := fun_mk (st := s_law_lets) l14 c14 k14
  have D14 : Df K mg "_law_lets" s_law_lets ["_law_groups", "_law_pair"] f14 _ := ⟨F14, PySem.W.mg_of X G a14, F14.binds (ps := ["_law_groups", "_law_pair"]) fun _ _ _ _ _ _ us hl => match us, hl with | [_, _], _ => rfl⟩
  have F15 := fun_mk (st := s_law_moves) l15 c15 k15
  have D15 : Df K mg "_law_moves" s_law_moves ["_law_a", "_law_b", "_law_pairs_here"] f15 _ := ⟨F15, PySem.W.mg_of X G a15, F15.binds (ps := ["_law_a", "_law_b", "_law_pairs_here"]) fun _ _ _ _ _ _ us hl => match us, hl with | [_, _, _], _ => rfl⟩
  have F16 := fun_mk (st := s_law_ends) l16 c16 k16
  have D16 : Df K mg "_law_ends" s_law_ends ["_law_move", "_law_far", "_law_turn"] f16 _ := ⟨F16, PySem.W.mg_of X G a16, F16.binds (ps := ["_law_move", "_law_far", "_law_turn"]) fun _ _ _ _ _ _ us hl => match us, hl with | [_, _, _], _ => rfl⟩
  have F17 := fun_mk (st := s_law_due) l17 c17 k17
  have D17 : Df K mg "_law_due" s_law_due ["_law_a", "_law_b", "_law_pairs_here"] f17 _ := ⟨F17, PySem.W.mg_of X G a17, F17.binds (ps := ["_law_a", "_law_b", "_law_pairs_here"]) fun _ _ _ _ _ _ us hl => match us, hl with | [_, _, _], _ => rfl⟩
  have F18 := fun_mk (st := s_law_number) l18 c18 k18
  have D18 : Df K mg "_law_number" s_law_number ["_law_x", "_law_due_here"] f18 _ := ⟨F18, PySem.W.mg_of X G a18, F18.binds (ps := ["_law_x", "_law_due_here"]) fun _ _ _ _ _ _ us hl => match us, hl with | [_, _], _ => rfl⟩
  have F19 := fun_mk (st := s_law_same) l19 c19 k19
  have D19 : Df K mg "_law_same" s_law_same ["_law_row_here", "_law_due_here"] f19 _ := ⟨F19, PySem.W.mg_of X G a19, F19.binds (ps := ["_law_row_here", "_law_due_here"]) fun _ _ _ _ _ _ us hl => match us, hl with | [_, _], _ => rfl⟩
  have F20 := fun_mk (st := s_law_parts) l20 c20 k20
  have D20 : Df K mg "_law_parts" s_law_parts ["_law_one", "_law_other", "_law_a", "_law_b", "_law_pairs_here"] f20 _ := ⟨F20, PySem.W.mg_of X G a20, F20.binds (ps := ["_law_one", "_law_other", "_law_a", "_law_b", "_law_pairs_here"]) fun _ _ _ _ _ _ us hl => match us, hl with | [_, _, _, _, _], _ => rfl⟩
  have F21 := fun_mk (st := s_law) l21 c21 k21
  have D21 : Df K mg "law" s_law ["_law_script"] fa _ := ⟨F21, PySem.W.mg_of X G a21, F21.binds (ps := ["_law_script"]) fun _ _ _ _ _ _ us hl => match us, hl with | [_], _ => rfl⟩
  have FTI := fun_mk (st := s_Chooser_init) lTI cTI kTI
  have bTI : Binds K _ ["self", "callers", "states"] [] := FTI.binds (ps := ["self", "callers", "states"]) fun _ _ _ _ _ _ us hl => match us, hl with | [_, _, _], _ => rfl
  have FTL := fun_mk (st := s_Chooser_len) lTL cTL kTL
  have bTL : Binds K _ ["self"] [] := FTL.binds (ps := ["self"]) fun _ _ _ _ _ _ us hl => match us, hl with | [_], _ => rfl
  have FTO := fun_mk (st := s_Chooser_call) lTO cTO kTO
  have bTO : Binds K _ ["self", "state", "able"] [] := FTO.binds (ps := ["self", "state", "able"]) fun _ _ _ _ _ _ us hl => match us, hl with | [_, _, _], _ => rfl
  have FTA := fun_mk (st := s_Chooser_after) lTA cTA kTA
  have bTA : Binds K _ ["self", "state", "caller"] [] := FTA.binds (ps := ["self", "state", "caller"]) fun _ _ _ _ _ _ us hl => match us, hl with | [_, _, _], _ => rfl
  have FTE := fun_mk (st := s_Chooser_state) lTE cTE kTE
  have bTE : Binds K _ ["self", "at"] [] := FTE.binds (ps := ["self", "at"]) fun _ _ _ _ _ _ us hl => match us, hl with | [_, _], _ => rfl
  have FTF := fun_mk (st := s_Chooser_free) lTF cTF kTF
  have bTF : Binds K _ ["callers"] [] := FTF.binds (ps := ["callers"]) fun _ _ _ _ _ _ us hl => match us, hl with | [_], _ => rfl
  have FTR := fun_mk (st := s_Chooser_ranked) lTR cTR kTR
  have bTR : Binds K _ ["callers"] [] := FTR.binds (ps := ["callers"]) fun _ _ _ _ _ _ us hl => match us, hl with | [_], _ => rfl
  have MT : Mk K CH fTI := ⟨p5T, mTI, hTI, p9T⟩
  have MEA : Meth K CH _ fTA := ⟨mTA, hTA, kTA⟩
  have MEE : Meth K CH _ fTE := ⟨mTE, hTE, kTE⟩
  have CO : CallO K CH fTO := ⟨mTO, hTO, iTO⟩
  have LN : LenC K CH fTL := ⟨mTL, hTL⟩
  have STF : StaC K CH (.type "type") "free" pTF fTF := ⟨st1, st2, saF, ⟨_, sbF⟩, kTF⟩
  have STR : StaC K CH (.type "type") "ranked" pTR fTR := ⟨st1, st2, saR, ⟨_, sbR⟩, kTR⟩
  have G0 := ok_is_below (P := l.prog) (w := w) (base := base) D0 T1
  have G1 := ok_check_callers (P := l.prog) (w := w) (base := base) D1 T1 ERN D0 G0
  have G2 := ok_are_groups (P := l.prog) (w := w) (base := base) D2 T1 D0 G0
  have G3 := ok_is_state (P := l.prog) (w := w) (base := base) D3 T1 D0 G0 D2 G2
  have GTL := ok_Chooser_len (P := l.prog) (w := w) (base := base) FTL T1 C
  have GTE := ok_Chooser_state (P := l.prog) (w := w) (base := base) FTE T1 C ERH D0 G0
  have GTA := ok_Chooser_after (P := l.prog) (w := w) (base := base) FTA T1 C MEE bTE GTE
  have GTO := ok_Chooser_call (P := l.prog) (w := w) (base := base) FTO T1 C MEE bTE GTE
  have GTI := ok_Chooser_init (P := l.prog) (w := w) (base := base) FTI T1 C ERG ERH D1 G1 D3 G3
  have GTF := ok_Chooser_free (P := l.prog) (w := w) (base := base) FTF T1 C D1 G1 MT bTI GTI
  have GTR := ok_Chooser_ranked (P := l.prog) (w := w) (base := base) FTR T1 C D1 G1 MT bTI GTI
  have G4 := ok_lets (P := l.prog) (w := w) (base := base) D4 T1 C CO bTO GTO MEA bTA GTA
  have G5 := ok_able_tuples (P := l.prog) (w := w) (base := base) D5 T1
  have G6 := ok_parting_row (P := l.prog) (w := w) (base := base) D6 T1 C ERN CO bTO GTO MEA bTA GTA D5 G5
  have G7 := ok_law_cell (P := l.prog) (w := w) (base := base) D7 TW
  have G8 := ok_law_row (P := l.prog) (w := w) (base := base) D8 TW
  have G9 := ok_law_state (P := l.prog) (w := w) (base := base) D9 TW
  have G10 := ok_law_ladder (P := l.prog) (w := w) (base := base) D10 TW
  have G11 := ok_law_merged (P := l.prog) (w := w) (base := base) D11 TW
  have G12 := ok_law_over (P := l.prog) (w := w) (base := base) D12 TW D8 G8 D7 G7 D11 G11
  have G13 := ok_law_pairs (P := l.prog) (w := w) (base := base) D13 T1
  have G14 := ok_law_lets (P := l.prog) (w := w) (base := base) D14 TW
  have G15 := ok_law_moves (P := l.prog) (w := w) (base := base) D15 TW D14 G14
  have G16 := ok_law_ends (P := l.prog) (w := w) (base := base) D16 TW
  have G17 := ok_law_due (P := l.prog) (w := w) (base := base) D17 TW D15 G15 D16 G16
  have G18 := ok_law_number (P := l.prog) (w := w) (base := base) D18 TS
  have ZN := okz_law_number (P := l.prog) (w := w) (base := base) D18 TS
  have G19 := ok_law_same (P := l.prog) (w := w) (base := base) D19 TS D18 G18
  have G20 := ok_law_parts (P := l.prog) (w := w) (base := base) D20 TW D17 G17 D6 G6 D19 G19 D4 G4
  exact ok_law (P := l.prog) (w := w) (base := base) D21 TE C MT bTI GTI STF bTF GTF STR bTR GTR D8 G8 D7 G7 D9 G9 D10 G10 D12 G12 D13 G13 D20 G20 D6 G6 D18 ZN
theorem walk {l : PySem.W.OpenLaw} {q : Program} {loose : List Str} {XP : (Str → Option Value) → Heap → Prop} {YP : World → Heap → Prop} {d : DefRec} {K : Params → PySem.W.Frag} (hn : l.most = some 63) (hdf : d.params.defaults = [])
    (hY : ∀ (w : World) (h : Heap), YP w h → (K w.params).In h)
    (F : ∀ (w : World) (mg : Str → Option Value) (fa : Addr) (h : Heap), (K w.params).In h → h.Ns mainGlobals mg → mg d.name = some (.ref fa) →
      ∃ fd : FuncData, (∀ (s : Shared) (u : Value), BindsTo s fd ⟨[u], []⟩ [("_law_script", u)]) ∧ ∀ base : Heap, (K w.params).In base → base.Ns mainGlobals mg → FnOk l.prog w (K w.params) mg base CX0 9 fa fd ["_law_script"] (spLaw (K w.params))) :
    PySem.W.WalkO q loose XP YP l.row.toRowW d [] (fun f vs => PySem.call f vs) :=
  L2.walk_of (n := 63) (k := 9) (x := "_law_script") (CX := fun _ => CX0) (sp := fun w => spLaw (K w.params)) hn (by decide) hdf ⟨rfl, by decide, by decide⟩ hY F (fun _ _ a ns hl _ hS => ⟨a, ns, rfl, hS, hl, fun _ => rfl⟩) fun _ _ _ _ _ z => z
end My
open PySem PySem.W PyProof.Rows in
set_option maxRecDepth 100000 in
set_option maxHeartbeats 0 in
theorem PySem.Challenge.cw_coretower_k52_whole_parting_row_holds : PySem.Challenge.rw_coretower_k52_whole_parting_row.Holds := by
  w_on; o_law; k_head; (case hw => w_witness2)
  k_fill
  refine My.walk (l := PySem.Challenge.rw_coretower_k52_whole_parting_row) rfl rfl (fun w h Y => PySem.W.kIn_of Y) ?F
  case F =>
    intro w mg fa h KX G hmg
    refine' My.all_mk KX G hmg ?a0 ?l0 ?c0 ?k0 ?a1 ?l1 ?c1 ?k1 ?a2 ?l2 ?c2 ?k2 ?a3 ?l3 ?c3 ?k3 ?a4 ?l4 ?c4 ?k4 ?a5 ?l5 ?c5 ?k5 ?a6 ?l6 ?c6 ?k6 ?a7 ?l7 ?c7 ?k7 ?a8 ?l8 ?c8 ?k8 ?a9 ?l9 ?c9 ?k9 ?a10 ?l10 ?c10 ?k10 ?a11 ?l11 ?c11 ?k11 ?a12 ?l12 ?c12 ?k12 ?a13 ?l13 ?c13 ?k13 ?a14 ?l14 ?c14 ?k14 ?a15 ?l15 ?c15 ?k15 ?a16 ?l16 ?c16 ?k16 ?a17 ?l17 ?c17 ?k17 ?a18 ?l18 ?c18 ?k18 ?a19 ?l19 ?c19 ?k19 ?a20 ?l20 ?c20 ?k20 ?a21 ?l21 ?c21 ?k21 ?z_isinstance ?z_int ?z_bool ?z_tuple ?z_list ?z_len ?z_all ?z_sorted ?z_range ?z_enumerate ?z_sum ?z_abs ?z_super ?gX3 ?gX2 ?aN ?xN ?rN ?b1N ?q1N ?q2N ?q3N ?b4N ?b5N ?b6N ?lN ?cN ?kN ?eN ?b7N ?b8N ?b9 ?b14 ?b31 ?p12 ?p13 ?b10N ?b11N ?b12N ?b13N ?b15N ?b17N ?b18N ?b19N ?b25N ?b26N ?aG ?xG ?rG ?b1G ?q1G ?q2G ?q3G ?b4G ?b5G ?b6G ?lG ?cG ?kG ?eG ?b7G ?b8G ?b10G ?b11G ?b12G ?b13G ?b15G ?b17G ?b18G ?b19G ?b25G ?b26G ?aH ?xH ?rH ?b1H ?q1H ?q2H ?q3H ?b4H ?b5H ?b6H ?lH ?cH ?kH ?eH ?b7H ?b8H ?b10H ?b11H ?b12H ?b13H ?b15H ?b17H ?b18H ?b19H ?b25H ?b26H ?aT ?p1T ?p2T ?p3T ?p4T ?n0T ?n1T ?p9T ?p5T ?mTI ?hTI ?lTI ?cTI ?kTI ?mTL ?hTL ?lTL ?cTL ?kTL ?mTO ?hTO ?lTO ?cTO ?kTO ?mTA ?hTA ?lTA ?cTA ?kTA ?mTE ?hTE ?lTE ?cTE ?kTE ?iTO ?st1 ?st2 ?saF ?sbF ?lTF ?cTF ?kTF ?saR ?sbR ?lTR ?cTR ?kTR ?sNN
    (case a0 => k_is)
    (case l0 => k_is)
    (case c0 => k_is)
    (case k0 => k_is)
    (case a1 => k_is)
    (case l1 => k_is)
    (case c1 => k_is)
    (case k1 => k_is)
    (case a2 => k_is)
    (case l2 => k_is)
    (case c2 => k_is)
    (case k2 => k_is)
    (case a3 => k_is)
    (case l3 => k_is)
    (case c3 => k_is)
    (case k3 => k_is)
    (case a4 => k_is)
    (case l4 => k_is)
    (case c4 => k_is)
    (case k4 => k_is)
    (case a5 => k_is)
    (case l5 => k_is)
    (case c5 => k_is)
    (case k5 => k_is)
    (case a6 => k_is)
    (case l6 => k_is)
    (case c6 => k_is)
    (case k6 => k_is)
    (case a7 => k_is)
    (case l7 => k_is)
    (case c7 => k_is)
    (case k7 => k_is)
    (case a8 => k_is)
    (case l8 => k_is)
    (case c8 => k_is)
    (case k8 => k_is)
    (case a9 => k_is)
    (case l9 => k_is)
    (case c9 => k_is)
    (case k9 => k_is)
    (case a10 => k_is)
    (case l10 => k_is)
    (case c10 => k_is)
    (case k10 => k_is)
    (case a11 => k_is)
    (case l11 => k_is)
    (case c11 => k_is)
    (case k11 => k_is)
    (case a12 => k_is)
    (case l12 => k_is)
    (case c12 => k_is)
    (case k12 => k_is)
    (case a13 => k_is)
    (case l13 => k_is)
    (case c13 => k_is)
    (case k13 => k_is)
    (case a14 => k_is)
    (case l14 => k_is)
    (case c14 => k_is)
    (case k14 => k_is)
    (case a15 => k_is)
    (case l15 => k_is)
    (case c15 => k_is)
    (case k15 => k_is)
    (case a16 => k_is)
    (case l16 => k_is)
    (case c16 => k_is)
    (case k16 => k_is)
    (case a17 => k_is)
    (case l17 => k_is)
    (case c17 => k_is)
    (case k17 => k_is)
    (case a18 => k_is)
    (case l18 => k_is)
    (case c18 => k_is)
    (case k18 => k_is)
    (case a19 => k_is)
    (case l19 => k_is)
    (case c19 => k_is)
    (case k19 => k_is)
    (case a20 => k_is)
    (case l20 => k_is)
    (case c20 => k_is)
    (case k20 => k_is)
    (case a21 => k_is)
    (case l21 => k_is)
    (case c21 => k_is)
    (case k21 => k_is)
    (case z_isinstance => k_is)
    (case z_int => k_is)
    (case z_bool => k_is)
    (case z_tuple => k_is)
    (case z_list => k_is)
    (case z_len => k_is)
    (case z_all => k_is)
    (case z_sorted => k_is)
    (case z_range => k_is)
    (case z_enumerate => k_is)
    (case z_sum => k_is)
    (case z_abs => k_is)
    (case z_super => k_is)
    (case gX3 => k_is)
    (case gX2 => k_is)
    (case aN => k_is)
    (case xN => k_is)
    (case rN => decide +kernel)
    (case b1N => k_is)
    (case q1N => k_is)
    (case q2N => k_is)
    (case q3N => k_is)
    (case b4N => k_is)
    (case b5N => k_is)
    (case b6N => k_is)
    (case lN => k_is)
    (case cN => k_is)
    (case kN => k_is)
    (case eN => k_is)
    (case b7N => ks_is)
    (case b8N => k_is)
    (case b9 => k_is)
    (case b14 => first | rfl | decide +kernel)
    (case b31 => decide +kernel)
    (case p12 => k_is)
    (case p13 => k_is)
    (case b10N => k_is)
    (case b11N => k_is)
    (case b12N => rfl)
    (case b13N => first | rfl | decide +kernel)
    (case b15N => k_is)
    (case b17N => k_is)
    (case b18N => k_is)
    (case b19N => k_is)
    (case b25N => k_is)
    (case b26N => k_is)
    (case aG => k_is)
    (case xG => k_is)
    (case rG => decide +kernel)
    (case b1G => k_is)
    (case q1G => k_is)
    (case q2G => k_is)
    (case q3G => k_is)
    (case b4G => k_is)
    (case b5G => k_is)
    (case b6G => k_is)
    (case lG => k_is)
    (case cG => k_is)
    (case kG => k_is)
    (case eG => k_is)
    (case b7G => ks_is)
    (case b8G => k_is)
    (case b10G => k_is)
    (case b11G => k_is)
    (case b12G => rfl)
    (case b13G => first | rfl | decide +kernel)
    (case b15G => k_is)
    (case b17G => k_is)
    (case b18G => k_is)
    (case b19G => k_is)
    (case b25G => k_is)
    (case b26G => k_is)
    (case aH => k_is)
    (case xH => k_is)
    (case rH => decide +kernel)
    (case b1H => k_is)
    (case q1H => k_is)
    (case q2H => k_is)
    (case q3H => k_is)
    (case b4H => k_is)
    (case b5H => k_is)
    (case b6H => k_is)
    (case lH => k_is)
    (case cH => k_is)
    (case kH => k_is)
    (case eH => k_is)
    (case b7H => ks_is)
    (case b8H => k_is)
    (case b10H => k_is)
    (case b11H => k_is)
    (case b12H => rfl)
    (case b13H => first | rfl | decide +kernel)
    (case b15H => k_is)
    (case b17H => k_is)
    (case b18H => k_is)
    (case b19H => k_is)
    (case b25H => k_is)
    (case b26H => k_is)
    (case aT => k_is)
    (case p1T => k_is)
    (case p2T => k_is)
    (case p3T => k_is)
    (case p4T => k_is)
    (case n0T => k_is)
    (case n1T => k_is)
    (case p9T => k_is)
    (case p5T => k_is)
    (case mTI => k_is)
    (case hTI => k_is)
    (case lTI => k_is)
    (case cTI => k_is)
    (case kTI => k_is)
    (case mTL => k_is)
    (case hTL => k_is)
    (case lTL => k_is)
    (case cTL => k_is)
    (case kTL => k_is)
    (case mTO => k_is)
    (case hTO => k_is)
    (case lTO => k_is)
    (case cTO => k_is)
    (case kTO => k_is)
    (case mTA => k_is)
    (case hTA => k_is)
    (case lTA => k_is)
    (case cTA => k_is)
    (case kTA => k_is)
    (case mTE => k_is)
    (case hTE => k_is)
    (case lTE => k_is)
    (case cTE => k_is)
    (case kTE => k_is)
    (case iTO => k_is)
    (case st1 => k_is)
    (case st2 => k_is)
    (case saF => k_is)
    (case sbF => k_is)
    (case lTF => k_is)
    (case cTF => k_is)
    (case kTF => k_is)
    (case saR => k_is)
    (case sbR => k_is)
    (case lTR => k_is)
    (case cTR => k_is)
    (case kTR => k_is)
    (case sNN => first | rfl | k_is)

